import PyProof.Rows.All
import HandS.ForMost
import HandS.Property
import HandS.OwnEq
import HandS.IsInst
import HandS.Wide
import HandS.Conv
import HandS.Style
import HandS.Flow
import HandS.ForExc
import HandS.ClsMeth
import HandS.SortInts
import HandS.TryMany
import HandS.Deep
import HandS.CallLocal
import HandS.Zip
import HandS.TupAny
import KE.GoesZip
import KE.GoesEnum
import KE.KTupSum
import PyProof.InstNe
import KE.KOpsOwn
import HandS.TupSets
import HandS.SetFor
import HandS.Strs
import Lean
import PySem.Challenge.RW_beanjars_k04_jars
set_option Elab.async false
set_option linter.all false
set_option maxRecDepth 100000
set_option maxHeartbeats 4000000
section
/-! Data over the hand layer: a def as a plain function of data and a store of lists and instances that may be changed. -/
namespace DL
open PySem PySem.Spec PyProof.Rows L2

inductive D where
  | non | bl (b : Bool) | int (i : Int) | str (x : Str)
  | lst (xs : List D) | tup (xs : List D) | fl (xs : List D)
  | ins (C : Addr) (fs : List (Str × D))
  | exc (C : Addr) (fs : List (Str × D))
  | dct (kvs : List (Key × D))
  | obj (i : Nat)
  | fn (f : Addr)

inductive Cell where
  | dead | lst (xs : List D) | ins (C : Addr) (fs : List (Str × D))
abbrev Sto := List Cell
abbrev Mu := List (Option Addr)

/-- what is hidden: the store's places, and what the surroundings hold -/
def hid (μ : Mu) (ν : List Addr) (H : Hp) : Hp := open Classical in fun a => if some a ∈ μ ∨ a ∈ ν then none else H a
theorem hid_some {μ : Mu} {ν : List Addr} {H : Hp} {a : Addr} {o : HO} (h : hid μ ν H a = some o) : H a = some o ∧ some a ∉ μ ∧ a ∉ ν := by
  unfold hid at h
  split at h
  · cases h
  · rename_i q
    exact ⟨h, fun z => q (.inl z), fun z => q (.inr z)⟩
theorem hid_of {μ : Mu} {ν : List Addr} {H : Hp} {a : Addr} (h1 : some a ∉ μ) (h2 : a ∉ ν) : hid μ ν H a = H a := by
  unfold hid
  rw [if_neg (fun z => z.elim h1 h2)]
theorem hid_sub {μ : Mu} {ν : List Addr} {H : Hp} : Same (hid μ ν H) H := fun a o h => (hid_some h).1

mutual
def Rep (K : PySem.W.Frag) (μ : Mu) (G : Hp) : D → V → Prop
  | .non, v => v = .non
  | .bl b, v => v = .bl b
  | .int i, v => v = .int i
  | .str x, v => v = .str x
  | .lst xs, v => ∃ a vs, v = .ref a ∧ G a = some (.lst vs) ∧ xs.length ≤ sizeLine ∧ Reps K μ G xs vs
  | .fl xs, v => ∃ a vs, v = .ref a ∧ SqL K G a vs ∧ xs.length ≤ sizeLine ∧ Reps K μ G xs vs
  | .tup xs, v => ∃ a vs, v = .ref a ∧ SqT K G a vs ∧ xs.length ≤ sizeLine ∧ Reps K μ G xs vs
  | .ins C fs, v => ∃ a dx gs, v = .ref a ∧ G a = some (.ins C dx gs) ∧ FReps K μ G fs gs
  | .exc _ _, _ => False
  | .dct kvs, v => ∃ a ws, v = .ref a ∧ Rd G a (.dK ws) ∧ KReps K μ G kvs ws
  | .obj i, v => i < μ.length ∧ ∀ a, μ[i]? = some (some a) → v = .ref a
  | .fn f, v => v = .ref f
def Reps (K : PySem.W.Frag) (μ : Mu) (G : Hp) : List D → List V → Prop
  | [], vs => vs = []
  | d :: ds, vs => ∃ v r, vs = v :: r ∧ Rep K μ G d v ∧ Reps K μ G ds r
def FReps (K : PySem.W.Frag) (μ : Mu) (G : Hp) : List (Str × D) → List (Str × V) → Prop
  | [], vs => vs = []
  | p :: ds, vs => ∃ v r, vs = (p.1, v) :: r ∧ Rep K μ G p.2 v ∧ FReps K μ G ds r
def KReps (K : PySem.W.Frag) (μ : Mu) (G : Hp) : List (Key × D) → List (Key × V) → Prop
  | [], vs => vs = []
  | p :: ds, vs => ∃ v r, vs = (p.1, v) :: r ∧ Rep K μ G p.2 v ∧ KReps K μ G ds r
end

section
variable {K : PySem.W.Frag} {μ μ' : Mu} {G G' : Hp}
/-- the store's places: more may come, some may be let go -/
structure MuExt (μ μ' : Mu) : Prop where
  len : μ.length ≤ μ'.length
  at_ : ∀ (i : Nat) (a : Addr), i < μ.length → μ'[i]? = some (some a) → μ[i]? = some (some a)
theorem MuExt.refl : MuExt μ μ := ⟨Nat.le_refl _, fun _ _ _ h => h⟩
theorem MuExt.trans {μ2 : Mu} (a : MuExt μ μ') (b : MuExt μ' μ2) : MuExt μ μ2 :=
  ⟨Nat.le_trans a.len b.len, fun i x h e => a.at_ i x h (b.at_ i x (Nat.lt_of_lt_of_le h a.len) e)⟩

theorem rd_same {H H' : Hp} {a : Addr} {u : HO} (e : Same H H') (h : Rd H a u) : Rd H' a u := by
  rcases h with h | ⟨o, h⟩
  · exact .inl (e _ _ h)
  · exact .inr ⟨o, e _ _ h⟩
theorem sqT_same {K : PySem.W.Frag} {H H' : Hp} {a : Addr} {xs : List V} (e : Same H H') (h : SqT K H a xs) : SqT K H' a xs := h.elim (fun z => .inl (rd_same e z)) .inr
mutual
theorem Rep.mono (m : MuExt μ μ') (e : Same G G') : ∀ (d : D) (v : V), Rep K μ G d v → Rep K μ' G' d v
  | .non, v, h => h
  | .bl b, v, h => h
  | .int i, v, h => h
  | .str x, v, h => h
  | .lst xs, v, h => by
    unfold Rep at h ⊢
    obtain ⟨a, vs, e1, e2, e3, e4⟩ := h
    exact ⟨a, vs, e1, e _ _ e2, e3, Reps.mono m e xs vs e4⟩
  | .fl xs, v, h => by
    unfold Rep at h ⊢
    obtain ⟨a, vs, e1, e2, e3, e4⟩ := h
    exact ⟨a, vs, e1, e.seq e2, e3, Reps.mono m e xs vs e4⟩
  | .tup xs, v, h => by
    unfold Rep at h ⊢
    obtain ⟨a, vs, e1, e2, e3, e4⟩ := h
    exact ⟨a, vs, e1, sqT_same e e2, e3, Reps.mono m e xs vs e4⟩
  | .ins C fs, v, h => by
    unfold Rep at h ⊢
    obtain ⟨a, dx, gs, e1, e2, e3⟩ := h
    exact ⟨a, dx, gs, e1, e _ _ e2, FReps.mono m e fs gs e3⟩
  | .exc _ _, v, h => h
  | .fn _, v, h => h
  | .dct kvs, v, h => by
    unfold Rep at h ⊢
    obtain ⟨a, ws, e1, e2, e3⟩ := h
    exact ⟨a, ws, e1, rd_same e e2, KReps.mono m e kvs ws e3⟩
  | .obj i, v, h => by
    unfold Rep at h ⊢
    exact ⟨Nat.lt_of_lt_of_le h.1 m.len, fun a q => h.2 a (m.at_ i a h.1 q)⟩
theorem Reps.mono (m : MuExt μ μ') (e : Same G G') : ∀ (ds : List D) (vs : List V), Reps K μ G ds vs → Reps K μ' G' ds vs
  | [], vs, h => h
  | d :: ds, vs, h => by
    unfold Reps at h ⊢
    obtain ⟨v, r, e1, e2, e3⟩ := h
    exact ⟨v, r, e1, Rep.mono m e d v e2, Reps.mono m e ds r e3⟩
theorem FReps.mono (m : MuExt μ μ') (e : Same G G') : ∀ (ds : List (Str × D)) (vs : List (Str × V)), FReps K μ G ds vs → FReps K μ' G' ds vs
  | [], vs, h => h
  | p :: ds, vs, h => by
    unfold FReps at h ⊢
    obtain ⟨v, r, e1, e2, e3⟩ := h
    exact ⟨v, r, e1, Rep.mono m e p.2 v e2, FReps.mono m e ds r e3⟩
theorem KReps.mono (m : MuExt μ μ') (e : Same G G') : ∀ (ds : List (Key × D)) (vs : List (Key × V)), KReps K μ G ds vs → KReps K μ' G' ds vs
  | [], vs, h => h
  | p :: ds, vs, h => by
    unfold KReps at h ⊢
    obtain ⟨v, r, e1, e2, e3⟩ := h
    exact ⟨v, r, e1, Rep.mono m e p.2 v e2, KReps.mono m e ds r e3⟩
end
theorem Reps.len : ∀ {ds : List D} {vs : List V}, Reps K μ G ds vs → ds.length = vs.length
  | [], vs, h => by unfold Reps at h; subst h; rfl
  | d :: ds, vs, h => by
    unfold Reps at h
    obtain ⟨v, r, rfl, _, e3⟩ := h
    rw [List.length_cons, List.length_cons, Reps.len e3]
theorem Reps.get : ∀ {ds : List D} {vs : List V} {i : Nat} {d : D}, Reps K μ G ds vs → ds[i]? = some d → ∃ v, vs[i]? = some v ∧ Rep K μ G d v
  | [], _, i, d, _, e => by simp at e
  | d0 :: ds, vs, 0, d, h, e => by
    unfold Reps at h
    obtain ⟨v, r, rfl, e2, e3⟩ := h
    simp at e; subst e
    exact ⟨v, rfl, e2⟩
  | d0 :: ds, vs, i + 1, d, h, e => by
    unfold Reps at h
    obtain ⟨v, r, rfl, e2, e3⟩ := h
    obtain ⟨u, h1, h2⟩ := Reps.get (i := i) e3 (by simpa using e)
    exact ⟨u, by simpa using h1, h2⟩
theorem Reps.get' : ∀ {ds : List D} {vs : List V} {i : Nat} {v : V}, Reps K μ G ds vs → vs[i]? = some v → ∃ d, ds[i]? = some d ∧ Rep K μ G d v
  | [], vs, i, d, h, e => by unfold Reps at h; subst h; simp at e
  | d0 :: ds, vs, 0, d, h, e => by
    unfold Reps at h
    obtain ⟨v, r, rfl, e2, e3⟩ := h
    simp at e; subst e
    exact ⟨d0, rfl, e2⟩
  | d0 :: ds, vs, i + 1, d, h, e => by
    unfold Reps at h
    obtain ⟨v, r, rfl, e2, e3⟩ := h
    obtain ⟨u, h1, h2⟩ := Reps.get' (i := i) e3 (by simpa using e)
    exact ⟨u, by simpa using h1, h2⟩
theorem Reps.cons {d : D} {v : V} {ds : List D} {vs : List V} (h : Rep K μ G d v) (hs : Reps K μ G ds vs) : Reps K μ G (d :: ds) (v :: vs) := by
  unfold Reps
  exact ⟨v, vs, rfl, h, hs⟩
theorem Reps.nil : Reps K μ G [] [] := by unfold Reps; rfl
theorem Reps.append : ∀ {ds es : List D} {vs ws : List V}, Reps K μ G ds vs → Reps K μ G es ws → Reps K μ G (ds ++ es) (vs ++ ws)
  | [], es, vs, ws, h, g => by unfold Reps at h; subst h; exact g
  | d :: ds, es, vs, ws, h, g => by
    unfold Reps at h
    obtain ⟨v, r, rfl, e2, e3⟩ := h
    exact Reps.cons e2 (Reps.append e3 g)
theorem Reps.one {d : D} {v : V} (h : Rep K μ G d v) : Reps K μ G [d] [v] := Reps.cons h Reps.nil
theorem Reps.set {d : D} {v : V} (h : Rep K μ G d v) : ∀ {ds : List D} {vs : List V} (i : Nat), Reps K μ G ds vs → Reps K μ G (ds.set i d) (vs.set i v)
  | [], vs, i, g => by unfold Reps at g; subst g; exact Reps.nil
  | d0 :: ds, vs, 0, g => by
    unfold Reps at g
    obtain ⟨w, r, rfl, e2, e3⟩ := g
    exact Reps.cons h e3
  | d0 :: ds, vs, i + 1, g => by
    unfold Reps at g
    obtain ⟨w, r, rfl, e2, e3⟩ := g
    exact Reps.cons e2 (Reps.set h i e3)
theorem Reps.take : ∀ {ds : List D} {vs : List V} (n : Nat), Reps K μ G ds vs → Reps K μ G (ds.take n) (vs.take n)
  | _, _, 0, _ => Reps.nil
  | [], vs, n + 1, h => by unfold Reps at h; subst h; exact Reps.nil
  | d :: ds, vs, n + 1, h => by
    unfold Reps at h
    obtain ⟨v, r, rfl, e2, e3⟩ := h
    exact Reps.cons e2 (Reps.take n e3)
theorem Reps.drop : ∀ {ds : List D} {vs : List V} (n : Nat), Reps K μ G ds vs → Reps K μ G (ds.drop n) (vs.drop n)
  | _, _, 0, h => h
  | [], vs, n + 1, h => by unfold Reps at h; subst h; exact Reps.nil
  | d :: ds, vs, n + 1, h => by
    unfold Reps at h
    obtain ⟨v, r, rfl, e2, e3⟩ := h
    exact Reps.drop n e3
theorem Reps.ints : ∀ {ns : List Int}, Reps K μ G (ns.map D.int) (ns.map V.int)
  | [] => Reps.nil
  | n :: ns => Reps.cons (by unfold Rep; rfl) Reps.ints
end

/-! ### the store -/
section
variable (K : PySem.W.Frag)
def CellOk (μ : Mu) (ν : List Addr) (H : Hp) (i : Nat) : Cell → Prop
  | .dead => True
  | .lst xs => ∃ a vs, μ[i]? = some (some a) ∧ H a = some (.lst vs) ∧ xs.length ≤ sizeLine ∧ Reps K μ (hid μ ν H) xs vs
  | .ins C fs => ∃ a dx gs, μ[i]? = some (some a) ∧ H a = some (.ins C dx gs) ∧ FReps K μ (hid μ ν H) fs gs
structure StoOk (μ : Mu) (ν : List Addr) (H : Hp) (st : Sto) : Prop where
  len : μ.length = st.length
  inj : ∀ (i j : Nat) (a : Addr), μ[i]? = some (some a) → μ[j]? = some (some a) → i = j
  live : ∀ a, some a ∈ μ → ∃ o, H a = some o
  out : ∀ a ∈ ν, (∃ o, H a = some o) ∧ some a ∉ μ
  cell : ∀ (i : Nat) (c : Cell), st[i]? = some c → CellOk K μ ν H i c
end
structure Ext (ν : List Addr) (μ : Mu) (H : Hp) (μ' : Mu) (H' : Hp) : Prop where
  mu : MuExt μ μ'
  same : Same (hid μ ν H) (hid μ' ν H')
  out : ∀ a ∈ ν, H' a = H a
theorem Ext.refl {ν : List Addr} {μ : Mu} {H : Hp} : Ext ν μ H μ H := ⟨.refl, Same.refl _, fun _ _ => rfl⟩
theorem Ext.trans {ν : List Addr} {μ μ1 μ2 : Mu} {H H1 H2 : Hp} (a : Ext ν μ H μ1 H1) (b : Ext ν μ1 H1 μ2 H2) : Ext ν μ H μ2 H2 :=
  ⟨a.mu.trans b.mu, a.same.trans b.same, fun x hx => (b.out x hx).trans (a.out x hx)⟩
section
variable {K : PySem.W.Frag} {μ μ' : Mu} {ν : List Addr} {H H' : Hp} {st : Sto}
theorem Rep.ext {d : D} {v : V} (h : Rep K μ (hid μ ν H) d v) (e : Ext ν μ H μ' H') : Rep K μ' (hid μ' ν H') d v := Rep.mono e.mu e.same d v h
theorem Reps.ext {d : List D} {v : List V} (h : Reps K μ (hid μ ν H) d v) (e : Ext ν μ H μ' H') : Reps K μ' (hid μ' ν H') d v := Reps.mono e.mu e.same d v h
theorem mem_of_get {i : Nat} {a : Addr} (h : μ[i]? = some (some a)) : some a ∈ μ := List.mem_of_getElem? h
/-- a fresh address is not hidden -/
theorem StoOk.fresh (S : StoOk K μ ν H st) {p : Addr} (h : H p = none) : some p ∉ μ ∧ p ∉ ν := by
  refine ⟨fun z => ?_, fun z => ?_⟩
  · obtain ⟨o, e⟩ := S.live p z
    rw [h] at e; cases e
  · obtain ⟨⟨o, e⟩, _⟩ := S.out p z
    rw [h] at e; cases e
/-- a new object is seen -/
theorem StoOk.ext_new (S : StoOk K μ ν H st) {p : Addr} {o : HO} (h : H p = none) : Ext ν μ H μ (upd H p o) := by
  refine ⟨.refl, fun a u e => ?_, fun a ha => ?_⟩
  · obtain ⟨e1, e2, e3⟩ := hid_some e
    rw [hid_of e2 e3, upd_ne (ne_of_none e1 h)]
    exact e1
  · rw [upd_ne]
    intro z; subst z
    exact (S.fresh h).2 ha
theorem FReps.ext {d : List (Str × D)} {v : List (Str × V)} (h : FReps K μ (hid μ ν H) d v) (e : Ext ν μ H μ' H') : FReps K μ' (hid μ' ν H') d v := FReps.mono e.mu e.same d v h
/-- all cells stay where nothing hidden is touched -/
theorem CellOk.stay {i : Nat} {c : Cell} (h : CellOk K μ ν H i c) (e : Ext ν μ H μ' H') (hi : i < μ.length) (hk : ∀ a, μ[i]? = some (some a) → μ'[i]? = some (some a) ∧ H' a = H a) : CellOk K μ' ν H' i c := by
  cases c with
  | dead => trivial
  | lst xs =>
    obtain ⟨a, vs, h1, h2, h3, h4⟩ := h
    obtain ⟨k1, k2⟩ := hk a h1
    exact ⟨a, vs, k1, k2.trans h2, h3, h4.ext e⟩
  | ins C fs =>
    obtain ⟨a, dx, gs, h1, h2, h3⟩ := h
    obtain ⟨k1, k2⟩ := hk a h1
    exact ⟨a, dx, gs, k1, k2.trans h2, h3.ext e⟩
theorem StoOk.lt (S : StoOk K μ ν H st) {i : Nat} {c : Cell} (h : st[i]? = some c) : i < μ.length := by
  rw [S.len]
  exact (List.getElem?_eq_some_iff.mp h).1
theorem StoOk.new (S : StoOk K μ ν H st) {p : Addr} {o : HO} (h : H p = none) : StoOk K μ ν (upd H p o) st := by
  have ne : ∀ a, some a ∈ μ → a ≠ p := fun a ha z => by subst z; exact (S.fresh h).1 ha
  have ne2 : ∀ a ∈ ν, a ≠ p := fun a ha z => by subst z; exact (S.fresh h).2 ha
  refine ⟨S.len, S.inj, fun a ha => ?_, fun a ha => ?_, fun i c hc => ?_⟩
  · rw [upd_ne (ne a ha)]; exact S.live a ha
  · rw [upd_ne (ne2 a ha)]; exact S.out a ha
  · exact (S.cell i c hc).stay (S.ext_new h) (S.lt hc) fun a ha => ⟨ha, upd_ne (ne a (mem_of_get ha))⟩
/-- a new object comes into the store -/
theorem hid_push (S : StoOk K μ ν H st) {p : Addr} {o : HO} (h : H p = none) : Ext ν μ H (μ ++ [some p]) (upd H p o) := by
  refine ⟨⟨by rw [List.length_append]; omega, fun i a hi e => ?_⟩, fun a u e => ?_, (S.ext_new (o := o) h).out⟩
  · rw [List.getElem?_append_left hi] at e; exact e
  · obtain ⟨e1, e2, e3⟩ := hid_some e
    have hap : a ≠ p := ne_of_none e1 h
    rw [hid_of _ e3, upd_ne hap]
    · exact e1
    · intro z
      rcases List.mem_append.mp z with z | z
      · exact e2 z
      · exact hap (by simpa using z)
theorem StoOk.push (S : StoOk K μ ν H st) {p : Addr} {o : HO} {c : Cell} (h : H p = none) (hc : CellOk K (μ ++ [some p]) ν (upd H p o) μ.length c) : StoOk K (μ ++ [some p]) ν (upd H p o) (st ++ [c]) := by
  have ne : ∀ a, some a ∈ μ → a ≠ p := fun a ha z => by subst z; exact (S.fresh h).1 ha
  have ne2 : ∀ a ∈ ν, a ≠ p := fun a ha z => by subst z; exact (S.fresh h).2 ha
  have at_ : ∀ i a, (μ ++ [some p])[i]? = some (some a) → (i < μ.length ∧ μ[i]? = some (some a)) ∨ (i = μ.length ∧ a = p) := fun i a e => by
    by_cases hi : i < μ.length
    · rw [List.getElem?_append_left hi] at e; exact .inl ⟨hi, e⟩
    · rw [List.getElem?_append_right (by omega)] at e
      have hz : i - μ.length = 0 := by
        have := (List.getElem?_eq_some_iff.mp e).1
        simp at this; omega
      rw [hz] at e
      simp at e
      exact .inr ⟨by omega, e.symm⟩
  refine ⟨by rw [List.length_append, List.length_append, S.len]; rfl, fun i j a h1 h2 => ?_, fun a ha => ?_, fun a ha => ?_, fun i c' hc' => ?_⟩
  · rcases at_ i a h1 with ⟨hi, e1⟩ | ⟨hi, e1⟩ <;> rcases at_ j a h2 with ⟨hj, e2⟩ | ⟨hj, e2⟩
    · exact S.inj i j a e1 e2
    · exact absurd e2 (ne a (mem_of_get e1))
    · exact absurd e1 (ne a (mem_of_get e2))
    · omega
  · rcases List.mem_append.mp ha with ha | ha
    · rw [upd_ne (ne a ha)]; exact S.live a ha
    · have : a = p := by simpa using ha
      subst this
      exact ⟨o, upd_same⟩
  · rw [upd_ne (ne2 a ha)]
    refine ⟨(S.out a ha).1, fun z => ?_⟩
    rcases List.mem_append.mp z with z | z
    · exact (S.out a ha).2 z
    · exact ne2 a ha (by simpa using z)
  · by_cases hi : i < st.length
    · rw [List.getElem?_append_left hi] at hc'
      refine (S.cell i c' hc').stay (hid_push S h) (S.lt hc') fun a ha => ⟨?_, upd_ne (ne a (mem_of_get ha))⟩
      rw [List.getElem?_append_left (S.lt hc')]; exact ha
    · have hz : i = μ.length := by
        have := (List.getElem?_eq_some_iff.mp hc').1
        rw [List.length_append] at this
        have := S.len
        simp at *; omega
      subst hz
      rw [S.len, List.getElem?_append_right (Nat.le_refl _), Nat.sub_self] at hc'
      simp at hc'
      subst hc'
      exact hc
/-- a store's place is changed -/
theorem StoOk.put (S : StoOk K μ ν H st) {i : Nat} {a : Addr} {o : HO} {c : Cell} (hi : μ[i]? = some (some a)) (hc : CellOk K μ ν (upd H a o) i c) : StoOk K μ ν (upd H a o) (st.set i c) ∧ Ext ν μ H μ (upd H a o) := by
  have ma := mem_of_get hi
  have ne2 : ∀ b ∈ ν, b ≠ a := fun b hb z => by subst z; exact (S.out b hb).2 ma
  have e : Ext ν μ H μ (upd H a o) := by
    refine ⟨.refl, fun b u q => ?_, fun b hb => upd_ne (ne2 b hb)⟩
    obtain ⟨e1, e2, e3⟩ := hid_some q
    rw [hid_of e2 e3, upd_ne]
    · exact e1
    · intro z; subst z; exact e2 ma
  refine ⟨⟨by rw [List.length_set]; exact S.len, S.inj, fun b hb => ?_, fun b hb => ?_, fun j c' hc' => ?_⟩, e⟩
  · by_cases z : b = a
    · subst z; exact ⟨o, upd_same⟩
    · rw [upd_ne z]; exact S.live b hb
  · rw [upd_ne (ne2 b hb)]; exact S.out b hb
  · by_cases hj : i = j
    · subst hj
      rw [List.getElem?_set_self (by rw [← S.len]; exact (List.getElem?_eq_some_iff.mp hi).1)] at hc'
      cases hc'
      exact hc
    · rw [List.getElem?_set_ne hj] at hc'
      refine (S.cell j c' hc').stay e (S.lt hc') fun b hb => ⟨hb, upd_ne fun z => ?_⟩
      subst z
      exact hj (S.inj i j b hi hb)
end
end DL
end
section
namespace DL
open PySem PySem.Spec PyProof.Rows L2

/-! ### results -/
inductive R (α : Type) where
  | ok (a : α) (st : Sto)
  | er (C : Addr) (fs : Option (List (Str × D))) (st : Sto)
abbrev M (α : Type) := Sto → Option (R α)
def M.pure {α : Type} (a : α) : M α := fun st => some (.ok a st)
def M.no {α : Type} : M α := fun _ => none
def M.bind {α β : Type} (m : M α) (f : α → M β) : M β := fun st => match m st with
  | some (.ok a st') => f a st'
  | some (.er C fs st') => some (.er C fs st')
  | none => none
theorem bind_ok {α β : Type} {m : M α} {f : α → M β} {st st' : Sto} {a : α} (h : m st = some (.ok a st')) : M.bind m f st = f a st' := by unfold M.bind; rw [h]
theorem bind_er {α β : Type} {m : M α} {f : α → M β} {st st' : Sto} {C : Addr} {fs : Option (List (Str × D))} (h : m st = some (.er C fs st')) : M.bind m f st = some (.er C fs st') := by unfold M.bind; rw [h]
abbrev En := List (Option D)
abbrev EF := En → M D

section
variable (K : PySem.W.Frag)
def SimE (μ : Mu) (G : Hp) : En → L2.St → Prop
  | [], σ => σ = []
  | none :: δ, σ => ∃ v r, σ = v :: r ∧ SimE μ G δ r
  | some d :: δ, σ => ∃ v r, σ = some v :: r ∧ Rep K μ G d v ∧ SimE μ G δ r
def XOk (μ : Mu) (G : Hp) : Option (List (Str × D)) → Option Addr → Prop
  | none, d => d = none
  | some fs, d => ∃ a gs, d = some a ∧ G a = some (.xd gs) ∧ FReps K μ G fs gs
/-- what a result must do -/
def Out {α : Type} (ν : List Addr) (E : XK) (μ : Mu) (H : Hp) (o : Option (R α)) (k : α → Sto → Mu → Hp → Prop) : Prop := match o with
  | none => False
  | some (.ok a st') => ∀ μ' H', Ext ν μ H μ' H' → StoOk K μ' ν H' st' → k a st' μ' H'
  | some (.er C fs st') => ∀ μ' H' d, Ext ν μ H μ' H' → StoOk K μ' ν H' st' → XOk K μ' (hid μ' ν H') fs d → E (.ref C) d H'
/-- a state: places, frame, data of the names, store -/
structure Sit (μ : Mu) (ν : List Addr) (δ : En) (st : Sto) (σ : L2.St) (H : Hp) : Prop where
  sto : StoOk K μ ν H st
  env : SimE K μ (hid μ ν H) δ σ
def tD (E : XK) (f : EF) : TE := fun σ H Q => ∃ μ ν δ st, Sit K μ ν δ st σ H ∧ Out K ν E μ H (f δ st) fun d st' μ' H' => ∀ v, Rep K μ' (hid μ' ν H') d v → Q v H'
def tDs (E : XK) (f : En → M (List D)) : TA := fun σ H Q => ∃ μ ν δ st, Sit K μ ν δ st σ H ∧ Out K ν E μ H (f δ st) fun d st' μ' H' => ∀ v, Reps K μ' (hid μ' ν H') d v → Q v H'
def tDb (E : XK) (f : En → M Bool) : TT := fun σ H Q => ∃ μ ν δ st, Sit K μ ν δ st σ H ∧ Out K ν E μ H (f δ st) fun b st' μ' H' => Q b H'
inductive Fl where
  | nx (δ : En) | rt (d : D) | bk (δ : En) | ct (δ : En)
abbrev SF := En → M Fl
def endsD (ν : List Addr) (T : Ends) (fl : Fl) (μ : Mu) (H : Hp) : Prop := match fl with
  | .nx δ => ∀ σ, SimE K μ (hid μ ν H) δ σ → T.nx σ H
  | .rt d => ∀ v, Rep K μ (hid μ ν H) d v → T.rt v H
  | .bk δ => ∀ σ, SimE K μ (hid μ ν H) δ σ → T.bk σ H
  | .ct δ => ∀ σ, SimE K μ (hid μ ν H) δ σ → T.ct σ H
def tDS (E : XK) (f : SF) : TS := fun T σ H => ∃ μ ν δ st, Sit K μ ν δ st σ H ∧ Out K ν E μ H (f δ st) fun fl st' μ' H' => endsD K ν T fl μ' H'
/-- a def's promise -/
def spD (g : List D → M D) : Sp := fun vs H Q E => ∃ μ ν ds st, StoOk K μ ν H st ∧ Reps K μ (hid μ ν H) ds vs ∧ Out K ν E μ H (g ds st) fun d st' μ' H' => ∀ v, Rep K μ' (hid μ' ν H') d v → Q v H'
/-- an operator of two values -/
def rD2 (E : XK) (r : D → D → M D) : R2 := fun x y H Q => ∃ μ ν dx dy st, StoOk K μ ν H st ∧ Rep K μ (hid μ ν H) dx x ∧ Rep K μ (hid μ ν H) dy y ∧ Out K ν E μ H (r dx dy st) fun d st' μ' H' => ∀ v, Rep K μ' (hid μ' ν H') d v → Q v H'
def rD1 (E : XK) (r : D → M D) : V → Hp → VK → Prop := fun x H Q => ∃ μ ν dx st, StoOk K μ ν H st ∧ Rep K μ (hid μ ν H) dx x ∧ Out K ν E μ H (r dx st) fun d st' μ' H' => ∀ v, Rep K μ' (hid μ' ν H') d v → Q v H'
def rDs (E : XK) (r : List D → M D) : List V → Hp → VK → Prop := fun xs H Q => ∃ μ ν ds st, StoOk K μ ν H st ∧ Reps K μ (hid μ ν H) ds xs ∧ Out K ν E μ H (r ds st) fun d st' μ' H' => ∀ v, Rep K μ' (hid μ' ν H') d v → Q v H'
end

section
variable {K : PySem.W.Frag} {μ μ' : Mu} {ν : List Addr} {H H' : Hp} {G G' : Hp} {st : Sto} {E : XK}
theorem SimE.mono (m : MuExt μ μ') (e : Same G G') : ∀ {δ : En} {σ : L2.St}, SimE K μ G δ σ → SimE K μ' G' δ σ
  | [], σ, h => h
  | none :: δ, σ, h => by
    unfold SimE at h ⊢
    obtain ⟨v, r, h1, h2⟩ := h
    exact ⟨v, r, h1, SimE.mono m e h2⟩
  | some d :: δ, σ, h => by
    unfold SimE at h ⊢
    obtain ⟨v, r, h1, h2, h3⟩ := h
    exact ⟨v, r, h1, Rep.mono m e d v h2, SimE.mono m e h3⟩
theorem SimE.ext {δ : En} {σ : L2.St} (h : SimE K μ (hid μ ν H) δ σ) (e : Ext ν μ H μ' H') : SimE K μ' (hid μ' ν H') δ σ := h.mono e.mu e.same
theorem SimE.get : ∀ {δ : En} {σ : L2.St} {i : Nat} {d : D}, SimE K μ G δ σ → δ[i]? = some (some d) → ∃ v, σ[i]? = some (some v) ∧ Rep K μ G d v
  | [], σ, i, d, h, e => by simp at e
  | none :: δ, σ, 0, d, h, e => by simp at e
  | some d0 :: δ, σ, 0, d, h, e => by
    unfold SimE at h
    obtain ⟨v, r, rfl, h2, h3⟩ := h
    simp at e; subst e
    exact ⟨v, rfl, h2⟩
  | none :: δ, σ, i + 1, d, h, e => by
    unfold SimE at h
    obtain ⟨v, r, rfl, h2⟩ := h
    obtain ⟨u, h4, h5⟩ := SimE.get (i := i) h2 (by simpa using e)
    exact ⟨u, by simpa using h4, h5⟩
  | some d0 :: δ, σ, i + 1, d, h, e => by
    unfold SimE at h
    obtain ⟨v, r, rfl, h2, h3⟩ := h
    obtain ⟨u, h4, h5⟩ := SimE.get (i := i) h3 (by simpa using e)
    exact ⟨u, by simpa using h4, h5⟩
theorem SimE.set {d : D} {v : V} (hd : Rep K μ G d v) : ∀ {δ : En} {σ : L2.St} {i : Nat}, SimE K μ G δ σ → SimE K μ G (δ.set i (some d)) (σ.set i (some v))
  | [], σ, i, h => by unfold SimE at h; subst h; unfold SimE; rfl
  | none :: δ, σ, 0, h => by
    unfold SimE at h
    obtain ⟨w, r, rfl, h2⟩ := h
    show SimE K μ G (some d :: δ) (some v :: r)
    unfold SimE
    exact ⟨v, r, rfl, hd, h2⟩
  | some d0 :: δ, σ, 0, h => by
    unfold SimE at h
    obtain ⟨w, r, rfl, h2, h3⟩ := h
    show SimE K μ G (some d :: δ) (some v :: r)
    unfold SimE
    exact ⟨v, r, rfl, hd, h3⟩
  | none :: δ, σ, i + 1, h => by
    unfold SimE at h
    obtain ⟨w, r, rfl, h2⟩ := h
    show SimE K μ G (none :: δ.set i (some d)) (w :: r.set i (some v))
    unfold SimE
    exact ⟨w, _, rfl, h2.set hd⟩
  | some d0 :: δ, σ, i + 1, h => by
    unfold SimE at h
    obtain ⟨w, r, rfl, h2, h3⟩ := h
    show SimE K μ G (some d0 :: δ.set i (some d)) (some w :: r.set i (some v))
    unfold SimE
    exact ⟨w, _, rfl, h2, h3.set hd⟩
/-- a name is forgotten -/
theorem SimE.unset : ∀ {δ : En} {σ : L2.St} {i : Nat}, SimE K μ G δ σ → SimE K μ G (δ.set i none) σ
  | [], σ, i, h => h
  | none :: δ, σ, 0, h => h
  | some d0 :: δ, σ, 0, h => by
    unfold SimE at h
    obtain ⟨w, r, rfl, h2, h3⟩ := h
    show SimE K μ G (none :: δ) (some w :: r)
    unfold SimE
    exact ⟨some w, r, rfl, h3⟩
  | none :: δ, σ, i + 1, h => by
    unfold SimE at h
    obtain ⟨w, r, rfl, h2⟩ := h
    show SimE K μ G (none :: δ.set i none) (w :: r)
    unfold SimE
    exact ⟨w, r, rfl, h2.unset⟩
  | some d0 :: δ, σ, i + 1, h => by
    unfold SimE at h
    obtain ⟨w, r, rfl, h2, h3⟩ := h
    show SimE K μ G (some d0 :: δ.set i none) (some w :: r)
    unfold SimE
    exact ⟨w, r, rfl, h2, h3.unset⟩
/-- a name that is forgotten here may be forgotten there -/
theorem SimE.wipe1 : ∀ {δ : En} {σ : L2.St} {i : Nat}, SimE K μ G δ σ → SimE K μ G (δ.set i none) (σ.set i none)
  | [], σ, i, h => by unfold SimE at h; subst h; unfold SimE; rfl
  | none :: δ, σ, 0, h => by
    unfold SimE at h
    obtain ⟨w, r, rfl, h2⟩ := h
    show SimE K μ G (none :: δ) (none :: r)
    unfold SimE
    exact ⟨none, r, rfl, h2⟩
  | some d0 :: δ, σ, 0, h => by
    unfold SimE at h
    obtain ⟨w, r, rfl, h2, h3⟩ := h
    show SimE K μ G (none :: δ) (none :: r)
    unfold SimE
    exact ⟨none, r, rfl, h3⟩
  | none :: δ, σ, i + 1, h => by
    unfold SimE at h
    obtain ⟨w, r, rfl, h2⟩ := h
    show SimE K μ G (none :: δ.set i none) (w :: r.set i none)
    unfold SimE
    exact ⟨w, _, rfl, h2.wipe1⟩
  | some d0 :: δ, σ, i + 1, h => by
    unfold SimE at h
    obtain ⟨w, r, rfl, h2, h3⟩ := h
    show SimE K μ G (some d0 :: δ.set i none) (some w :: r.set i none)
    unfold SimE
    exact ⟨w, _, rfl, h2, h3.wipe1⟩
def wipeD (δ : En) : List Nat → En
  | [] => δ
  | v :: vs => (wipeD δ vs).set v none
theorem SimE.wipe {δ : En} {σ : L2.St} (h : SimE K μ G δ σ) : ∀ vs : List Nat, SimE K μ G (wipeD δ vs) (L2.wipe σ vs)
  | [] => h
  | v :: vs => (SimE.wipe h vs).wipe1
theorem SimE.len : ∀ {δ : En} {σ : L2.St}, SimE K μ G δ σ → σ.length = δ.length
  | [], σ, h => by unfold SimE at h; subst h; rfl
  | none :: δ, σ, h => by
    unfold SimE at h
    obtain ⟨w, r, rfl, h2⟩ := h
    rw [List.length_cons, List.length_cons, h2.len]
  | some d0 :: δ, σ, h => by
    unfold SimE at h
    obtain ⟨w, r, rfl, h2, h3⟩ := h
    rw [List.length_cons, List.length_cons, h3.len]
/-- the names' data at the entry -/
def startD (n : Nat) (ds : List D) : En := ds.map some ++ List.replicate (n - ds.length) none
theorem simE_none : ∀ (n : Nat), SimE K μ G (List.replicate n none) (List.replicate n none)
  | 0 => by show SimE K μ G [] []; unfold SimE; rfl
  | n + 1 => by
    show SimE K μ G (none :: List.replicate n none) (none :: List.replicate n none)
    unfold SimE
    exact ⟨none, _, rfl, simE_none n⟩
theorem simE_start : ∀ {ds : List D} {vs : List V} (m : Nat), Reps K μ G ds vs → SimE K μ G (ds.map some ++ List.replicate m none) (vs.map some ++ List.replicate m none)
  | [], vs, m, h => by unfold Reps at h; subst h; exact simE_none m
  | d :: ds, vs, m, h => by
    unfold Reps at h
    obtain ⟨v, r, rfl, h2, h3⟩ := h
    show SimE K μ G (some d :: (ds.map some ++ List.replicate m none)) (some v :: (r.map some ++ List.replicate m none))
    unfold SimE
    exact ⟨v, _, rfl, h2, simE_start m h3⟩

theorem XOk.mono (m : MuExt μ μ') (e : Same G G') {fs : Option (List (Str × D))} {d : Option Addr} (h : XOk K μ G fs d) : XOk K μ' G' fs d := by
  cases fs with
  | none => exact h
  | some fs =>
    obtain ⟨a, gs, h1, h2, h3⟩ := h
    exact ⟨a, gs, h1, e _ _ h2, FReps.mono m e fs gs h3⟩
section
variable {α β : Type}
theorem Out.ext {o : Option (R α)} {k : α → Sto → Mu → Hp → Prop} (h : Out K ν E μ H o k) (e : Ext ν μ H μ' H') : Out K ν E μ' H' o k := by
  unfold Out at h ⊢
  cases o with
  | none => exact h
  | some r =>
    cases r with
    | ok a st' => exact fun μ2 H2 e2 s2 => h μ2 H2 (e.trans e2) s2
    | er C fs st' => exact fun μ2 H2 d e2 s2 x => h μ2 H2 d (e.trans e2) s2 x
theorem Out.imp {o : Option (R α)} {k k' : α → Sto → Mu → Hp → Prop} (h : Out K ν E μ H o k) (hk : ∀ a st' μ' H', Ext ν μ H μ' H' → StoOk K μ' ν H' st' → k a st' μ' H' → k' a st' μ' H') : Out K ν E μ H o k' := by
  unfold Out at h ⊢
  cases o with
  | none => exact h
  | some r =>
    cases r with
    | ok a st' => exact fun μ2 H2 e2 s2 => hk _ _ _ _ e2 s2 (h μ2 H2 e2 s2)
    | er C fs st' => exact h
/-- the first part of two -/
theorem Out.fst {m : M α} {f : α → M β} {k : β → Sto → Mu → Hp → Prop} (h : Out K ν E μ H (M.bind m f st) k) : Out K ν E μ H (m st) fun a st' μ' H' => Out K ν E μ' H' (f a st') k := by
  cases e : m st with
  | none =>
    unfold M.bind at h
    rw [e] at h
    exact h
  | some r =>
    cases r with
    | ok a st' =>
      rw [bind_ok e] at h
      exact fun μ2 H2 e2 s2 => h.ext e2
    | er C fs st' =>
      rw [bind_er e] at h
      exact h
theorem Out.ret {a : α} {k : α → Sto → Mu → Hp → Prop} (S : StoOk K μ ν H st) (h : Out K ν E μ H (M.pure a st) k) : k a st μ H := h μ H .refl S
theorem Out.now {a : α} {k : α → Sto → Mu → Hp → Prop} (S : StoOk K μ ν H st) (h : Out K ν E μ H (some (R.ok a st)) k) : k a st μ H := h μ H .refl S
end
theorem Sit.ext {δ : En} {σ : L2.St} {st' : Sto} (S : Sit K μ ν δ st σ H) (e : Ext ν μ H μ' H') (s : StoOk K μ' ν H' st') : Sit K μ' ν δ st' σ H' := ⟨s, S.env.ext e⟩
end

/-! ### the judgements -/
abbrev DE (X : Cx) (E : XK) (e : Expr) (f : EF) : Prop := PE X e (tD X.K E f)
abbrev DA (X : Cx) (E : XK) (es : List Expr) (f : En → M (List D)) : Prop := PA X es (tDs X.K E f)
abbrev DT (X : Cx) (E : XK) (e : Expr) (f : En → M Bool) : Prop := PT X e (tDb X.K E f)
abbrev DSt (X : Cx) (E : XK) (s : Stmt) (f : SF) : Prop := PS X s (tDS X.K E f)
abbrev DSs (X : Cx) (E : XK) (s : List Stmt) (f : SF) : Prop := PSs X s (tDS X.K E f)

section
variable {X : Cx} {E : XK}
theorem pe_imp {e : Expr} {t t' : TE} (h : PE X e t) (i : ∀ σ H Q, t' σ H Q → t σ H Q) : PE X e t' := ⟨fun pins s σ H Q I q => h.run pins s σ H Q I (i _ _ _ q)⟩
theorem pa_imp {e : List Expr} {t t' : TA} (h : PA X e t) (i : ∀ σ H Q, t' σ H Q → t σ H Q) : PA X e t' := ⟨fun pos pins s σ H Q I q => h.run pos pins s σ H Q I (i _ _ _ q)⟩
theorem pt_imp {e : Expr} {t t' : TT} (h : PT X e t) (i : ∀ σ H Q, t' σ H Q → t σ H Q) : PT X e t' := ⟨fun pins s σ H Q I q => h.run pins s σ H Q I (i _ _ _ q)⟩
theorem ps_imp {e : Stmt} {t t' : TS} (h : PS X e t) (i : ∀ D σ H, t' D σ H → t D σ H) : PS X e t' := ⟨fun pins s σ H D I q => h.run pins s σ H D I (i _ _ _ q)⟩
theorem pss_imp {e : List Stmt} {t t' : TS} (h : PSs X e t) (i : ∀ D σ H, t' D σ H → t D σ H) : PSs X e t' := ⟨fun pins s σ H D I q => h.run pins s σ H D I (i _ _ _ q)⟩
theorem opR_imp {f : Value → Value → Sem Value} {r r' : R2} (h : OpR X f r) (i : ∀ x y H Q, r' x y H Q → r x y H Q) : OpR X f r' := fun pins s σ H x y v u Q I rx ry q => h pins s σ H x y v u Q I rx ry (i _ _ _ _ q)
theorem opR_or {f : Value → Value → Sem Value} {r r' : R2} (h : OpR X f r) (h' : OpR X f r') : OpR X f (fun x y H Q => r x y H Q ∨ r' x y H Q) := fun pins s σ H x y v u Q I rx ry q => q.elim (h pins s σ H x y v u Q I rx ry) (h' pins s σ H x y v u Q I rx ry)
theorem callR_imp {f : Value} {r r' : List V → Hp → VK → Prop} (h : CallR X f r) (i : ∀ x H Q, r' x H Q → r x H Q) : CallR X f r' := fun pins s σ H x v Q I rx q => h pins s σ H x v Q I rx (i _ _ _ q)
theorem callR_or {f : Value} {r r' : List V → Hp → VK → Prop} (h : CallR X f r) (h' : CallR X f r') : CallR X f (fun x H Q => r x H Q ∨ r' x H Q) := fun pins s σ H x v Q I rx q => q.elim (h pins s σ H x v Q I rx) (h' pins s σ H x v Q I rx)

/-! ### names, constants -/
def eVar (i : Nat) : EF := fun δ st => match δ[i]? with
  | some (some d) => some (.ok d st)
  | _ => none
def eC (d : D) : EF := fun _ st => some (.ok d st)
theorem de_var (i : Nat) {x : Str} {pos : Pos} (h : PE X (.Name x pos) (tVar i)) : DE X E (.Name x pos) (eVar i) := pe_imp h fun σ H Q ⟨μ, ν, δ, st, S, o⟩ => by
  unfold eVar at o
  split at o
  · rename_i d hd
    obtain ⟨v, h1, h2⟩ := S.env.get hd
    exact ⟨v, h1, o.now S.sto v h2⟩
  · exact o.elim
theorem de_c {e : Expr} {v : V} {d : D} (h : PE X e (tC v)) (hd : ∀ μ G, Rep X.K μ G d v) : DE X E e (eC d) := pe_imp h fun σ H Q ⟨μ, ν, δ, st, S, o⟩ => o.now S.sto v (hd _ _)
theorem de_int {i j pos} : DE X E (.Constant (.int i) j pos) (eC (.int i)) := de_c pe_int fun _ _ => by unfold Rep; rfl
theorem de_bl {b j pos} : DE X E (.Constant (.bool b) j pos) (eC (.bl b)) := de_c pe_bl fun _ _ => by unfold Rep; rfl
theorem de_non {j pos} : DE X E (.Constant .none j pos) (eC .non) := de_c pe_non fun _ _ => by unfold Rep; rfl
theorem de_str {x j pos} : DE X E (.Constant (.str x) j pos) (eC (.str x)) := de_c pe_str fun _ _ => by unfold Rep; rfl

/-! ### two operands -/
def eOp2 (r : D → D → M D) (fa fb : EF) : EF := fun δ => (fa δ).bind fun x => (fb δ).bind fun y => r x y
theorem tD_op2 {K : PySem.W.Frag} {r : D → D → M D} {fa fb : EF} {σ : L2.St} {H : Hp} {Q : VK} (h : tD K E (eOp2 r fa fb) σ H Q) : tOp (rD2 K E r) (tD K E fa) (tD K E fb) σ H Q := by
  obtain ⟨μ, ν, δ, st, S, o⟩ := h
  refine ⟨μ, ν, δ, st, S, o.fst.imp fun x st1 μ1 H1 e1 s1 o1 v hv => ?_⟩
  refine ⟨μ1, ν, δ, st1, S.ext e1 s1, o1.fst.imp fun y st2 μ2 H2 e2 s2 o2 u hu => ?_⟩
  exact ⟨μ2, ν, x, y, st2, s2, hv.ext e2, hu, o2⟩
theorem de_op {a b : Expr} {op : Operator} {pos : Pos} {r : D → D → M D} {fa fb : EF} (ho : OpR X (binaryOp op) (rD2 X.K E r)) (ha : DE X E a fa) (hb : DE X E b fb) : DE X E (.BinOp a op b pos) (eOp2 r fa fb) :=
  pe_imp (pe_op ho ha hb) fun σ H Q h => tD_op2 h
theorem de_cmp {a b : Expr} {op : CmpOp} {pos : Pos} {r : D → D → M D} {fa fb : EF} (ho : OpR X (compareOp op) (rD2 X.K E r)) (ha : DE X E a fa) (hb : DE X E b fb) (hm : behindInMarks op b = false) : DE X E (.Compare a [op] [b] pos) (eOp2 r fa fb) :=
  pe_imp (pe_cmpR ho ha hb hm) fun σ H Q h => tD_op2 h
/-! ### argument lists -/
def eNil : En → M (List D) := fun _ => M.pure []
def eCons (f : EF) (g : En → M (List D)) : En → M (List D) := fun δ => (f δ).bind fun x => (g δ).bind fun r => M.pure (x :: r)
theorem da_nil : DA X E [] eNil := pa_imp pa_nil fun σ H Q ⟨μ, ν, δ, st, S, o⟩ => o.ret S.sto [] .nil
theorem da_cons {e : Expr} {es : List Expr} {f : EF} {g : En → M (List D)} (he : DE X E e f) (hs : DA X E es g) (h : starEach (e :: es) X.env = (false, eval e X.env) :: starEach es X.env := by rfl) : DA X E (e :: es) (eCons f g) :=
  pa_imp (pa_cons he hs h) fun σ H Q ⟨μ, ν, δ, st, S, o⟩ => by
    refine ⟨μ, ν, δ, st, S, o.fst.imp fun x st1 μ1 H1 e1 s1 o1 v hv => ?_⟩
    refine ⟨μ1, ν, δ, st1, S.ext e1 s1, o1.fst.imp fun y st2 μ2 H2 e2 s2 o2 u hu => ?_⟩
    exact o2.ret s2 (v :: u) (.cons (hv.ext e2) hu)
/-! ### displays -/
def eTup (f : En → M (List D)) : EF := fun δ => (f δ).bind fun xs st => if xs.length ≤ sizeLine then some (.ok (.tup xs) st) else none
def eLst (f : En → M (List D)) : EF := fun δ => (f δ).bind fun xs st => if xs.length ≤ sizeLine then some (.ok (.lst xs) st) else none
/-- a new list, in the store -/
def eNewL (f : En → M (List D)) : EF := fun δ => (f δ).bind fun xs st => if xs.length ≤ sizeLine then some (.ok (.obj st.length) (st ++ [.lst xs])) else none
section
variable {K : PySem.W.Frag} {μ : Mu} {ν : List Addr} {H : Hp} {st : Sto}
theorem rep_lst {xs : List D} {vs : List V} {p : Addr} (S : StoOk K μ ν H st) (hp : H p = none) (hl : xs.length ≤ sizeLine) (h : Reps K μ (hid μ ν H) xs vs) : Rep K μ (hid μ ν (upd H p (.lst vs))) (.lst xs) (.ref p) := by
  unfold Rep
  refine ⟨p, vs, rfl, ?_, hl, h.ext (S.ext_new hp)⟩
  rw [hid_of (S.fresh hp).1 (S.fresh hp).2, upd_same]
theorem rep_tup {xs : List D} {vs : List V} {p : Addr} (S : StoOk K μ ν H st) (hp : H p = none) (hl : xs.length ≤ sizeLine) (h : Reps K μ (hid μ ν H) xs vs) : Rep K μ (hid μ ν (upd H p (.tup vs))) (.tup xs) (.ref p) := by
  unfold Rep
  refine ⟨p, vs, rfl, .inl (.inl ?_), hl, h.ext (S.ext_new hp)⟩
  rw [hid_of (S.fresh hp).1 (S.fresh hp).2, upd_same]
theorem sto_lst {xs : List D} {vs : List V} {p : Addr} (S : StoOk K μ ν H st) (hp : H p = none) (hl : xs.length ≤ sizeLine) (h : Reps K μ (hid μ ν H) xs vs) :
    StoOk K (μ ++ [some p]) ν (upd H p (.lst vs)) (st ++ [.lst xs]) ∧ Ext ν μ H (μ ++ [some p]) (upd H p (.lst vs)) ∧ Rep K (μ ++ [some p]) (hid (μ ++ [some p]) ν (upd H p (.lst vs))) (.obj st.length) (.ref p) := by
  refine ⟨S.push hp ⟨p, vs, ?_, upd_same, hl, h.ext (hid_push S hp)⟩, hid_push S hp, ?_⟩
  · rw [List.getElem?_append_right (Nat.le_refl _), Nat.sub_self]; rfl
  · unfold Rep
    rw [← S.len]
    refine ⟨by rw [List.length_append]; exact Nat.lt_succ_self _, fun a e => ?_⟩
    rw [List.getElem?_append_right (Nat.le_refl _), Nat.sub_self] at e
    simp at e
    rw [e]
end
theorem de_tup {es : List Expr} {f : En → M (List D)} {x1 pos} (h : DA X E es f) : DE X E (.Tuple es x1 pos) (eTup f) := pe_imp (pe_tup h) fun σ H Q ⟨μ, ν, δ, st, S, o⟩ => by
  refine ⟨μ, ν, δ, st, S, o.fst.imp fun xs st1 μ1 H1 e1 s1 o1 vs hv => ?_⟩
  split at o1
  · rename_i hl
    exact ⟨by rw [← hv.len]; exact hl, fun p hp => o1 μ1 _ (s1.ext_new hp) (s1.new hp) _ (rep_tup s1 hp hl hv)⟩
  · exact o1.elim
theorem de_lst {es : List Expr} {f : En → M (List D)} {pos} (h : DA X E es f) : DE X E (.List es pos) (eLst f) := pe_imp (pe_lst h) fun σ H Q ⟨μ, ν, δ, st, S, o⟩ => by
  refine ⟨μ, ν, δ, st, S, o.fst.imp fun xs st1 μ1 H1 e1 s1 o1 vs hv => ?_⟩
  split at o1
  · rename_i hl
    exact ⟨by rw [← hv.len]; exact hl, fun p hp => o1 μ1 _ (s1.ext_new hp) (s1.new hp) _ (rep_lst s1 hp hl hv)⟩
  · exact o1.elim
theorem de_newL {es : List Expr} {f : En → M (List D)} {pos} (h : DA X E es f) : DE X E (.List es pos) (eNewL f) := pe_imp (pe_lst h) fun σ H Q ⟨μ, ν, δ, st, S, o⟩ => by
  refine ⟨μ, ν, δ, st, S, o.fst.imp fun xs st1 μ1 H1 e1 s1 o1 vs hv => ?_⟩
  split at o1
  · rename_i hl
    exact ⟨by rw [← hv.len]; exact hl, fun p hp => let ⟨a, b, c⟩ := sto_lst s1 hp hl hv; o1 _ _ b a _ c⟩
  · exact o1.elim
end
end DL
end
section
namespace DL
open PySem PySem.Spec PyProof.Rows L2

/-! ### data as lists -/
/-- what can be read as a list -/
def asL (st : Sto) : D → Option (List D)
  | .lst xs => some xs
  | .fl xs => some xs
  | .obj i => match st[i]? with
    | some (.lst xs) => some xs
    | _ => none
  | _ => none
def asT : D → Option (List D)
  | .tup xs => some xs
  | _ => none
/-- a list that stands by itself (no script) -/
def asM (st : Sto) : D → Option (List D)
  | .lst xs => some xs
  | .obj i => match st[i]? with
    | some (.lst xs) => some xs
    | _ => none
  | _ => none
section
variable {K : PySem.W.Frag} {μ : Mu} {ν : List Addr} {H : Hp} {st : Sto}
theorem StoOk.obj (S : StoOk K μ ν H st) {i : Nat} {v : V} {c : Cell} (h : Rep K μ (hid μ ν H) (.obj i) v) (hc : st[i]? = some c) : CellOk K μ ν H i c ∧ ∀ a, μ[i]? = some (some a) → v = .ref a := by
  unfold Rep at h
  exact ⟨S.cell i c hc, h.2⟩
theorem asM_rep (S : StoOk K μ ν H st) {d : D} {v : V} {xs : List D} (h : Rep K μ (hid μ ν H) d v) (e : asM st d = some xs) : ∃ a vs, v = .ref a ∧ H a = some (.lst vs) ∧ xs.length ≤ sizeLine ∧ Reps K μ (hid μ ν H) xs vs := by
  unfold asM at e
  split at e
  · cases e
    unfold Rep at h
    obtain ⟨a, vs, e1, e2, e3, e4⟩ := h
    exact ⟨a, vs, e1, (hid_some e2).1, e3, e4⟩
  · split at e
    · cases e
      rename_i hc
      obtain ⟨⟨a, vs, h1, h2, h3, h4⟩, hv⟩ := S.obj h hc
      exact ⟨a, vs, hv a h1, h2, h3, h4⟩
    · cases e
  · cases e
theorem asL_rep (S : StoOk K μ ν H st) {d : D} {v : V} {xs : List D} (h : Rep K μ (hid μ ν H) d v) (e : asL st d = some xs) : ∃ a vs, v = .ref a ∧ SqL K H a vs ∧ xs.length ≤ sizeLine ∧ Reps K μ (hid μ ν H) xs vs := by
  unfold asL at e
  split at e
  · cases e
    unfold Rep at h
    obtain ⟨a, vs, e1, e2, e3, e4⟩ := h
    exact ⟨a, vs, e1, .inl (.inl (hid_some e2).1), e3, e4⟩
  · cases e
    unfold Rep at h
    obtain ⟨a, vs, e1, e2, e3, e4⟩ := h
    exact ⟨a, vs, e1, hid_sub.seq e2, e3, e4⟩
  · split at e
    · cases e
      rename_i hc
      obtain ⟨⟨a, vs, h1, h2, h3, h4⟩, hv⟩ := S.obj h hc
      exact ⟨a, vs, hv a h1, .inl (.inl h2), h3, h4⟩
    · cases e
  · cases e
theorem asT_rep {d : D} {v : V} {xs : List D} (h : Rep K μ (hid μ ν H) d v) (e : asT d = some xs) : ∃ a vs, v = .ref a ∧ SqT K H a vs ∧ xs.length ≤ sizeLine ∧ Reps K μ (hid μ ν H) xs vs := by
  unfold asT at e
  split at e
  · cases e
    unfold Rep at h
    obtain ⟨a, vs, e1, e2, e3, e4⟩ := h
    exact ⟨a, vs, e1, sqT_same hid_sub e2, e3, e4⟩
  · cases e
theorem rep_int {μ : Mu} {G : Hp} {i : Int} {v : V} (h : Rep K μ G (.int i) v) : v = .int i := by unfold Rep at h; exact h
theorem rep_bl {μ : Mu} {G : Hp} {i : Bool} {v : V} (h : Rep K μ G (.bl i) v) : v = .bl i := by unfold Rep at h; exact h
theorem rep_non {μ : Mu} {G : Hp} {v : V} (h : Rep K μ G .non v) : v = .non := by unfold Rep at h; exact h
theorem rep_str {μ : Mu} {G : Hp} {i : Str} {v : V} (h : Rep K μ G (.str i) v) : v = .str i := by unfold Rep at h; exact h
theorem to_int {μ : Mu} {G : Hp} {i : Int} : Rep K μ G (.int i) (.int i) := by unfold Rep; rfl
theorem to_bl {μ : Mu} {G : Hp} {i : Bool} : Rep K μ G (.bl i) (.bl i) := by unfold Rep; rfl
theorem to_non {μ : Mu} {G : Hp} : Rep K μ G .non .non := by unfold Rep; rfl
theorem to_str {μ : Mu} {G : Hp} {i : Str} : Rep K μ G (.str i) (.str i) := by unfold Rep; rfl
end

/-! ### arithmetic -/
def subD (x y : D) : M D := fun st => match x, y with
  | .int i, .int j => some (.ok (.int (i - j)) st)
  | _, _ => none
def modD (x y : D) : M D := fun st => match x, y with
  | .int i, .int j => if 0 < j then some (.ok (.int (i % j)) st) else none
  | _, _ => none
def divD (x y : D) : M D := fun st => match x, y with
  | .int i, .int j => if 0 < j ∧ j.natAbs < 2 ^ 9000 then some (.ok (.int (i / j)) st) else none
  | _, _ => none
def powD (x y : D) : M D := fun st => match x, y with
  | .int i, .int j => if 0 ≤ j ∧ j ≤ 1000000 ∧ i.natAbs < 2 ^ 64 then some (.ok (.int (i ^ j.toNat)) st) else none
  | _, _ => none
def mulD (x y : D) : M D := fun st => match x, y with
  | .int i, .int j => if ((-(2 ^ 64) < i ∧ i < 2 ^ 64) ∨ (-(2 ^ 64) < j ∧ j < 2 ^ 64)) ∨ i.natAbs.log2 + j.natAbs.log2 < 1000000 then some (.ok (.int (i * j)) st) else none
  | x, .int k => match asM st x with
    | some xs => if -(2 ^ 63) ≤ k ∧ k < 2 ^ 63 ∧ xs.length * k.toNat ≤ sizeLine then some (.ok (.lst (List.replicate k.toNat xs).flatten) st) else none
    | none => none
  | _, _ => none
def addD (x y : D) : M D := fun st => match x, y with
  | .int i, .int j => some (.ok (.int (i + j)) st)
  | .tup xs, .tup ys => if xs ≠ [] ∧ ys ≠ [] ∧ xs.length + ys.length ≤ sizeLine then some (.ok (.tup (xs ++ ys)) st) else none
  | x, y => match asM st x, asM st y with
    | some xs, some ys => if xs.length + ys.length ≤ sizeLine then some (.ok (.lst (xs ++ ys)) st) else none
    | _, _ => none

section
variable {X : Cx} {E : XK}
theorem od_sub : OpR X (binaryOp .Sub) (rD2 X.K E subD) := opR_imp op_sub fun x y H Q ⟨μ, ν, dx, dy, st, S, hx, hy, o⟩ => by
  unfold subD at o
  split at o
  · exact ⟨_, _, rep_int hx, rep_int hy, o.now S _ to_int⟩
  · exact o.elim
theorem od_mod : OpR X (binaryOp .Mod) (rD2 X.K E modD) := opR_imp op_mod fun x y H Q ⟨μ, ν, dx, dy, st, S, hx, hy, o⟩ => by
  unfold modD at o
  split at o
  · split at o
    · rename_i hj
      exact ⟨_, _, rep_int hx, rep_int hy, hj, o.now S _ to_int⟩
    · exact o.elim
  · exact o.elim
theorem od_div : OpR X (binaryOp .FloorDiv) (rD2 X.K E divD) := opR_imp op_fdivW fun x y H Q ⟨μ, ν, dx, dy, st, S, hx, hy, o⟩ => by
  unfold divD at o
  split at o
  · split at o
    · rename_i hj
      exact ⟨_, _, rep_int hx, rep_int hy, wide_div hj.1 hj.2 (by decide) (by decide), o.now S _ to_int⟩
    · exact o.elim
  · exact o.elim
theorem od_pow : OpR X (binaryOp .Pow) (rD2 X.K E powD) := opR_imp op_pow fun x y H Q ⟨μ, ν, dx, dy, st, S, hx, hy, o⟩ => by
  unfold powD at o
  split at o
  · split at o
    · rename_i hj
      exact ⟨_, _, rep_int hx, rep_int hy, hj, o.now S _ to_int⟩
    · exact o.elim
  · exact o.elim
theorem reps_rep {K : PySem.W.Frag} {μ : Mu} {G : Hp} {xs : List D} {vs : List V} (h : Reps K μ G xs vs) : ∀ n, Reps K μ G (List.replicate n xs).flatten (List.replicate n vs).flatten
  | 0 => Reps.nil
  | n + 1 => by
    rw [List.replicate_succ, List.replicate_succ, List.flatten_cons, List.flatten_cons]
    exact h.append (reps_rep h n)
theorem od_mul : OpR X (binaryOp .Mult) (rD2 X.K E mulD) := opR_imp (opR_or (opR_or op_mul op_mulW) op_rep) fun x y H Q ⟨μ, ν, dx, dy, st, S, hx, hy, o⟩ => by
  unfold mulD at o
  split at o
  · split at o
    · rename_i hj
      rcases hj with hj | hj
      · exact .inl (.inl ⟨_, _, rep_int hx, rep_int hy, hj, o.now S _ to_int⟩)
      · exact .inl (.inr ⟨_, _, rep_int hx, rep_int hy, hj, o.now S _ to_int⟩)
    · exact o.elim
  · split at o
    · rename_i hm
      split at o
      · rename_i hk
        obtain ⟨a, vs, e1, e2, e3, e4⟩ := asM_rep S hx hm
        refine .inr ⟨a, _, vs, e1, rep_int hy, e2, hk.1, hk.2.1, by rw [← e4.len]; exact hk.2.2, fun p hp => ?_⟩
        exact o _ _ (S.ext_new hp) (S.new hp) _ (rep_lst S hp (by rw [List.length_flatten, List.map_replicate, List.sum_replicate_nat, Nat.mul_comm]; exact hk.2.2) (reps_rep e4 _))
      · exact o.elim
    · exact o.elim
  · exact o.elim
theorem od_add : OpR X (binaryOp .Add) (rD2 X.K E addD) := opR_imp (opR_or (opR_or op_add op_cat) op_catT) fun x y H Q ⟨μ, ν, dx, dy, st, S, hx, hy, o⟩ => by
  unfold addD at o
  split at o
  · exact .inl (.inl ⟨_, _, rep_int hx, rep_int hy, o.now S _ to_int⟩)
  · split at o
    · rename_i hl
      obtain ⟨a, vs, e1, e2, e3, e4⟩ := asT_rep hx rfl
      obtain ⟨b, ws, f1, f2, f3, f4⟩ := asT_rep hy rfl
      refine .inr ⟨a, b, vs, ws, e1, f1, e2, f2, ?_, by rw [← e4.len, ← f4.len]; exact hl.2.2, ?_⟩
      · intro z
        have := e4.len
        rw [z] at this
        exact hl.1 (List.length_eq_zero_iff.mp this)
      · refine ⟨fun z => ?_, fun _ p hp => ?_⟩
        · have := f4.len
          rw [z] at this
          exact absurd (List.length_eq_zero_iff.mp this) hl.2.1
        · exact o _ _ (S.ext_new hp) (S.new hp) _ (rep_tup S hp (by rw [List.length_append]; exact hl.2.2) (e4.append f4))
    · exact o.elim
  · split at o
    · rename_i h1 h2
      split at o
      · rename_i hl
        obtain ⟨a, vs, e1, e2, e3, e4⟩ := asM_rep S hx h1
        obtain ⟨b, ws, f1, f2, f3, f4⟩ := asM_rep S hy h2
        refine .inl (.inr ⟨a, b, vs, ws, e1, f1, e2, f2, by rw [← e4.len, ← f4.len]; exact hl, fun p hp => ?_⟩)
        exact o _ _ (S.ext_new hp) (S.new hp) _ (rep_lst S hp (by rw [List.length_append]; exact hl) (e4.append f4))
      · exact o.elim
    · exact o.elim
end

/-! ### comparisons of ints -/
def cmpI (p : Int → Int → Bool) (x y : D) : M D := fun st => match x, y with
  | .int i, .int j => some (.ok (.bl (p i j)) st)
  | _, _ => none
abbrev ltD := cmpI fun i j => decide (i < j)
abbrev leD := cmpI fun i j => decide (i ≤ j)
abbrev gtD := cmpI fun i j => decide (j < i)
abbrev geD := cmpI fun i j => decide (j ≤ i)
section
variable {X : Cx} {E : XK}
theorem od_cmp {op : CmpOp} {p : Int → Int → Bool} (h : OpR X (compareOp op) (rI0 fun i j => .bl (p i j))) : OpR X (compareOp op) (rD2 X.K E (cmpI p)) := opR_imp h fun x y H Q ⟨μ, ν, dx, dy, st, S, hx, hy, o⟩ => by
  unfold cmpI at o
  split at o
  · exact ⟨_, _, rep_int hx, rep_int hy, o.now S _ to_bl⟩
  · exact o.elim
theorem od_lt : OpR X (compareOp .Lt) (rD2 X.K E ltD) := od_cmp op_lt
theorem od_le : OpR X (compareOp .LtE) (rD2 X.K E leD) := od_cmp op_le
theorem od_gt : OpR X (compareOp .Gt) (rD2 X.K E gtD) := od_cmp op_gt
theorem od_ge : OpR X (compareOp .GtE) (rD2 X.K E geD) := od_cmp op_ge
end

/-! ### == of data -/
def allM {β : Type} (f : D → Option β) : List D → Option (List β)
  | [] => some []
  | x :: xs => match f x with
    | some y => match allM f xs with
      | some ys => some (y :: ys)
      | none => none
    | none => none
theorem allM_map {α β : Type} {f : D → Option β} {m : α → D} {g : α → β} : ∀ {xs : List α}, (∀ x ∈ xs, f (m x) = some (g x)) → allM f (xs.map m) = some (xs.map g)
  | [], _ => rfl
  | x :: xs, h => by
    rw [List.map_cons]
    unfold allM
    rw [h x (List.mem_cons_self), allM_map (fun y hy => h y (List.mem_cons_of_mem _ hy))]
    rfl
theorem allM_cons {β : Type} {f : D → Option β} {x : D} {xs : List D} {r : List β} (h : allM f (x :: xs) = some r) : ∃ y ys, r = y :: ys ∧ f x = some y ∧ allM f xs = some ys := by
  unfold allM at h
  split at h
  · rename_i y hy
    split at h
    · rename_i ys hys
      cases h
      exact ⟨y, ys, rfl, hy, hys⟩
    · cases h
  · cases h
/-- what == reads -/
def datD (st : Sto) : Nat → D → Option PyData
  | _, .non => some .none
  | _, .bl b => some (.bool b)
  | _, .int i => some (.int i)
  | _, .str x => if PyData.strOk x = true then some (.str x) else none
  | k + 1, .lst xs => match allM (datD st k) xs with | some ys => some (.list ys) | none => none
  | k + 1, .fl xs => match allM (datD st k) xs with | some ys => some (.list ys) | none => none
  | k + 1, .tup xs => match allM (datD st k) xs with | some ys => some (.tuple ys) | none => none
  | k + 1, .obj i => match st[i]? with
    | some (.lst xs) => match allM (datD st k) xs with | some ys => some (.list ys) | none => none
    | _ => none
  | _, _ => none
theorem depth_all {m : Nat} : ∀ {ys : List PyData}, (∀ y ∈ ys, y.depth ≤ m) → PyData.depthAll ys ≤ m
  | [], _ => by unfold PyData.depthAll; exact Nat.zero_le _
  | y :: ys, h => by
    unfold PyData.depthAll
    exact Nat.max_le.mpr ⟨h y (List.mem_cons_self), depth_all fun z hz => h z (List.mem_cons_of_mem _ hz)⟩
theorem lay_all : ∀ {ys : List PyData}, (∀ y ∈ ys, y.canLay0 = true) → PyData.canLayAll0 ys = true
  | [], _ => by unfold PyData.canLayAll0; rfl
  | y :: ys, h => by
    unfold PyData.canLayAll0
    rw [h y (List.mem_cons_self), lay_all fun z hz => h z (List.mem_cons_of_mem _ hz)]
    rfl
section
variable {K : PySem.W.Frag} {μ : Mu} {ν : List Addr} {H : Hp} {st : Sto}
/-- what datD gives -/
structure DatOk (K : PySem.W.Frag) (H : Hp) (k : Nat) (v : V) (p : PyData) : Prop where
  dp : Dp K H v p
  dep : p.depth ≤ k + 1
  lay : p.canLay0 = true
theorem dat_all {k : Nat} (ih : ∀ (d : D) (v : V) (p : PyData), Rep K μ (hid μ ν H) d v → datD st k d = some p → DatOk K H k v p) : ∀ (xs : List D) (vs : List V) (ps : List PyData), Reps K μ (hid μ ν H) xs vs → allM (datD st k) xs = some ps →
    DpAll K H vs ps ∧ ∀ p ∈ ps, p.depth ≤ k + 1 ∧ p.canLay0 = true
  | [], vs, ps, h, e => by
    unfold Reps at h
    subst h
    cases e
    exact ⟨.nil, fun p hp => by cases hp⟩
  | x :: xs, vs, ps, h, e => by
    unfold Reps at h
    obtain ⟨v, r, rfl, h1, h2⟩ := h
    obtain ⟨y, ys, rfl, e1, e2⟩ := allM_cons e
    have a := ih x v y h1 e1
    obtain ⟨b, c⟩ := dat_all ih xs r ys h2 e2
    refine ⟨.cons a.dp b, fun p hp => ?_⟩
    rcases List.mem_cons.mp hp with rfl | hp
    · exact ⟨a.dep, a.lay⟩
    · exact c p hp
theorem dat_lst {k : Nat} {a : Addr} {vs : List V} {ps : List PyData} (h : SqL K H a vs) (x : DpAll K H vs ps ∧ ∀ p ∈ ps, p.depth ≤ k + 1 ∧ p.canLay0 = true) : DatOk K H (k + 1) (.ref a) (.list ps) := by
  refine ⟨.lst h x.1, ?_, ?_⟩
  · unfold PyData.depth
    have := depth_all (m := k + 1) fun y hy => (x.2 y hy).1
    omega
  · unfold PyData.canLay0
    exact lay_all fun y hy => (x.2 y hy).2
theorem dat_rep (S : StoOk K μ ν H st) : ∀ (k : Nat) (d : D) (v : V) (p : PyData), Rep K μ (hid μ ν H) d v → datD st k d = some p → DatOk K H k v p := by
  have flat : ∀ (k : Nat) (d : D) (v : V) (p : PyData), Rep K μ (hid μ ν H) d v → datD st 0 d = some p → DatOk K H k v p := by
    intro k d v p h e
    cases d with
    | non => cases e; rw [rep_non h]; exact ⟨.non, by unfold PyData.depth; omega, by unfold PyData.canLay0; rfl⟩
    | bl b => cases e; rw [rep_bl h]; exact ⟨.bl b, by unfold PyData.depth; omega, by unfold PyData.canLay0; rfl⟩
    | int i => cases e; rw [rep_int h]; exact ⟨.int i, by unfold PyData.depth; omega, by unfold PyData.canLay0; rfl⟩
    | str x =>
      unfold datD at e
      split at e
      · rename_i hs
        cases e
        rw [rep_str h]
        exact ⟨.str x, by unfold PyData.depth; omega, by unfold PyData.canLay0; exact hs⟩
      · cases e
    | _ => cases e
  intro k
  induction k with
  | zero => exact flat 0
  | succ k ih =>
    intro d v p h e
    cases d with
    | lst xs =>
      unfold datD at e
      split at e
      · rename_i ys hy
        cases e
        unfold Rep at h
        obtain ⟨a, vs, rfl, e2, e3, e4⟩ := h
        exact dat_lst (.inl (.inl (hid_some e2).1)) (dat_all ih xs vs ys e4 hy)
      · cases e
    | fl xs =>
      unfold datD at e
      split at e
      · rename_i ys hy
        cases e
        unfold Rep at h
        obtain ⟨a, vs, rfl, e2, e3, e4⟩ := h
        exact dat_lst (hid_sub.seq e2) (dat_all ih xs vs ys e4 hy)
      · cases e
    | tup xs =>
      unfold datD at e
      split at e
      · rename_i ys hy
        cases e
        unfold Rep at h
        obtain ⟨a, vs, rfl, e2, e3, e4⟩ := h
        have x := dat_all ih xs vs ys e4 hy
        refine ⟨.tup (sqT_same hid_sub e2) x.1, ?_, ?_⟩
        · unfold PyData.depth
          have := depth_all (m := k + 1) fun y hy => (x.2 y hy).1
          omega
        · unfold PyData.canLay0
          exact lay_all fun y hy => (x.2 y hy).2
      · cases e
    | obj i =>
      unfold datD at e
      split at e
      · rename_i xs hc
        split at e
        · rename_i ys hy
          cases e
          obtain ⟨⟨a, vs, h1, h2, h3, h4⟩, hv⟩ := S.obj h hc
          rw [hv a h1]
          exact dat_lst (.inl (.inl h2)) (dat_all ih xs vs ys h4 hy)
        · cases e
      · cases e
    | non => exact flat (k + 1) _ v p h e
    | bl b => exact flat (k + 1) _ v p h e
    | int i => exact flat (k + 1) _ v p h e
    | str x => exact flat (k + 1) _ v p h e
    | _ => cases e
end
def eqD (x y : D) : M D := fun st => match datD st 8 x, datD st 8 y with
  | some a, some b => some (.ok (.bl (PyData.eqv a b)) st)
  | _, _ => none
def neD (x y : D) : M D := fun st => match datD st 8 x, datD st 8 y with
  | some a, some b => some (.ok (.bl (!PyData.eqv a b)) st)
  | _, _ => none
section
variable {X : Cx} {E : XK}
theorem shaped_of {K : PySem.W.Frag} {H : Hp} {v : V} {p : PyData} (h : DatOk K H 8 v p) : SeqAt.shaped p = true := by
  unfold SeqAt.shaped
  rw [h.lay, decide_eq_true (show p.depth ≤ 64 by have := h.dep; omega)]
  rfl
theorem od_eq (hu : X.A.units + 64 < cLine) : OpR X (compareOp .Eq) (rD2 X.K E eqD) := opR_imp (op_eqD hu) fun x y H Q ⟨μ, ν, dx, dy, st, S, hx, hy, o⟩ => by
  unfold eqD at o
  split at o
  · rename_i a b ha hb
    have p := dat_rep S 8 dx x a hx ha
    have q := dat_rep S 8 dy y b hy hb
    exact ⟨a, b, p.dp, q.dp, shaped_of p, shaped_of q, o.now S _ to_bl⟩
  · exact o.elim
theorem od_ne (hu : X.A.units + 64 < cLine) : OpR X (compareOp .NotEq) (rD2 X.K E neD) := opR_imp (op_neD hu) fun x y H Q ⟨μ, ν, dx, dy, st, S, hx, hy, o⟩ => by
  unfold neD at o
  split at o
  · rename_i a b ha hb
    have p := dat_rep S 8 dx x a hx ha
    have q := dat_rep S 8 dy y b hy hb
    exact ⟨a, b, p.dp, q.dp, shaped_of p, shaped_of q, o.now S _ to_bl⟩
  · exact o.elim
end

/-! ### is, in -/
def isNonD : D → Bool
  | .non => true
  | _ => false
def isObjD : D → Bool
  | .obj _ => true
  | _ => false
def isD (x y : D) : M D := fun st => match x, y with
  | .bl a, .bl b => some (.ok (.bl (a == b)) st)
  | x, .non => if isObjD x = true then none else some (.ok (.bl (isNonD x)) st)
  | _, _ => none
def nisD (x y : D) : M D := fun st => match x, y with
  | .bl a, .bl b => some (.ok (.bl (!(a == b))) st)
  | x, .non => if isObjD x = true then none else some (.ok (.bl (!isNonD x)) st)
  | _, _ => none
theorem rep_isN {K : PySem.W.Frag} {μ : Mu} {G : Hp} {d : D} {v : V} (h : Rep K μ G d v) (hd : isObjD d = false) : decide (v = .non) = isNonD d := by
  cases d with
  | non => rw [rep_non h]; rfl
  | bl b => rw [rep_bl h]; rfl
  | int i => rw [rep_int h]; rfl
  | str x => rw [rep_str h]; rfl
  | lst xs => unfold Rep at h; obtain ⟨a, vs, rfl, _⟩ := h; rfl
  | fl xs => unfold Rep at h; obtain ⟨a, vs, rfl, _⟩ := h; rfl
  | tup xs => unfold Rep at h; obtain ⟨a, vs, rfl, _⟩ := h; rfl
  | ins C fs => unfold Rep at h; obtain ⟨a, dx, gs, rfl, _⟩ := h; rfl
  | dct kvs => unfold Rep at h; obtain ⟨a, ws, rfl, _⟩ := h; rfl
  | exc _ _ => unfold Rep at h; exact h.elim
  | obj i => cases hd
  | fn f => unfold Rep at h; subst h; rfl
section
variable {X : Cx} {E : XK}
theorem od_is : OpR X (compareOp .Is) (rD2 X.K E isD) := opR_imp (opR_or op_isN op_isBl) fun x y H Q ⟨μ, ν, dx, dy, st, S, hx, hy, o⟩ => by
  unfold isD at o
  split at o
  · rename_i a b
    refine .inr ⟨a, b, rep_bl hx, rep_bl hy, ?_⟩
    have q := o.now S _ to_bl
    rw [show decide (a = b) = (a == b) by cases a <;> cases b <;> rfl]
    exact q
  · split at o
    · exact o.elim
    · rename_i hn
      refine .inl ⟨rep_non hy, ?_⟩
      rw [rep_isN hx (by simpa using hn)]
      exact o.now S _ to_bl
  · exact o.elim
theorem od_nis : OpR X (compareOp .IsNot) (rD2 X.K E nisD) := opR_imp (opR_or op_notN op_notBl) fun x y H Q ⟨μ, ν, dx, dy, st, S, hx, hy, o⟩ => by
  unfold nisD at o
  split at o
  · rename_i a b
    refine .inr ⟨a, b, rep_bl hx, rep_bl hy, ?_⟩
    have q := o.now S _ to_bl
    rw [show decide (a = b) = (a == b) by cases a <;> cases b <;> rfl]
    exact q
  · split at o
    · exact o.elim
    · rename_i hn
      refine .inl ⟨rep_non hy, ?_⟩
      rw [rep_isN hx (by simpa using hn)]
      exact o.now S _ to_bl
  · exact o.elim
end

/-! ### subscripts -/
def ixD (x y : D) : M D := fun st => match y with
  | .int i => match asL st x with
    | some xs => match atI xs i with
      | some d => some (.ok d st)
      | none => none
    | none => match asT x with
      | some xs => match atI xs i with
        | some d => some (.ok d st)
        | none => none
      | none => none
  | _ => none
theorem reps_at {K : PySem.W.Frag} {μ : Mu} {G : Hp} {xs : List D} {vs : List V} {i : Int} {d : D} (h : Reps K μ G xs vs) (e : atI xs i = some d) : ∃ v, atI vs i = some v ∧ Rep K μ G d v := by
  unfold atI at e ⊢
  rw [← h.len]
  cases q : ixN xs.length i with
  | none => rw [q] at e; cases e
  | some j =>
    rw [q] at e
    exact h.get e
section
variable {X : Cx} {E : XK}
theorem od_ix : IxR X (rD2 X.K E ixD) := by
  have base : IxR X (fun x y H Q => rIxL X.K x y H Q ∨ rIxT X.K x y H Q) := ix_list.or ix_tup
  intro value slice pins s σ H x y v u Q I rx ry q hsub
  refine base value slice pins s σ H x y v u Q I rx ry ?_ hsub
  obtain ⟨μ, ν, dx, dy, st, S, hx, hy, o⟩ := q
  unfold ixD at o
  split at o
  · split at o
    · rename_i h1
      split at o
      · rename_i d hd
        obtain ⟨a, vs, e1, e2, e3, e4⟩ := asL_rep S hx h1
        obtain ⟨w, f1, f2⟩ := reps_at e4 hd
        exact .inl ⟨a, vs, _, w, e1, rep_int hy, e2, f1, o.now S _ f2⟩
      · exact o.elim
    · split at o
      · rename_i h1
        split at o
        · rename_i d hd
          obtain ⟨a, vs, e1, e2, e3, e4⟩ := asT_rep hx h1
          obtain ⟨w, f1, f2⟩ := reps_at e4 hd
          exact .inr ⟨a, vs, _, w, e1, rep_int hy, e2, f1, o.now S _ f2⟩
        · exact o.elim
      · exact o.elim
  · exact o.elim
theorem de_ix {a b : Expr} {pos : Pos} {fa fb : EF} (ha : DE X E a fa) (hb : DE X E b fb) (hs : PlainIx b) : DE X E (.Subscript a b pos) (eOp2 ixD fa fb) :=
  pe_imp (pe_ix od_ix ha hb hs) fun σ H Q h => tD_op2 h
end
end DL
end
section
namespace DL
open PySem PySem.Spec PyProof.Rows L2

/-! ### tests -/
def truD (d : D) : M Bool := fun st => match d with
  | .bl b => some (.ok b st)
  | .int i => some (.ok (i != 0) st)
  | .non => some (.ok false st)
  | .tup xs => some (.ok (!xs.isEmpty) st)
  | d => match asL st d with
    | some xs => some (.ok (!xs.isEmpty) st)
    | none => none
theorem reps_empty {K : PySem.W.Frag} {μ : Mu} {G : Hp} {xs : List D} {vs : List V} (h : Reps K μ G xs vs) : vs.isEmpty = xs.isEmpty := by
  have := h.len
  cases xs <;> cases vs <;> simp_all
section
variable {K : PySem.W.Frag} {μ : Mu} {ν : List Addr} {H : Hp} {st : Sto}
theorem truD_rep {E : XK} (S : StoOk K μ ν H st) {d : D} {v : V} {k : Bool → Sto → Mu → Hp → Prop} (h : Rep K μ (hid μ ν H) d v) (o : Out K ν E μ H (truD d st) k) : ∃ b, TruV K v H b ∧ k b st μ H := by
  unfold truD at o
  split at o
  · rw [rep_bl h]; exact ⟨_, rfl, o.now S⟩
  · rw [rep_int h]; exact ⟨_, rfl, o.now S⟩
  · rw [rep_non h]; exact ⟨_, rfl, o.now S⟩
  · obtain ⟨a, vs, rfl, e2, e3, e4⟩ := asT_rep h rfl
    refine ⟨_, ?_, o.now S⟩
    exact .inr (.inl ⟨vs, e2, by rw [reps_empty e4]⟩)
  · split at o
    · rename_i h1
      obtain ⟨a, vs, rfl, e2, e3, e4⟩ := asL_rep S h h1
      refine ⟨_, ?_, o.now S⟩
      exact .inl ⟨vs, e2, by rw [reps_empty e4]⟩
    · exact o.elim
end
section
variable {X : Cx} {E : XK}
def eTru (f : EF) : En → M Bool := fun δ => (f δ).bind truD
theorem dt_tru {e : Expr} {f : EF} (h : DE X E e f) (he : ∀ whole, isTrue e X.env whole = (do let v ← whole; standAt e.pos; holding [v] (truthy v)) := by intro _; rfl) : DT X E e (eTru f) :=
  pt_imp (pt_truth h he) fun σ H Q ⟨μ, ν, δ, st, S, o⟩ => by
    refine ⟨μ, ν, δ, st, S, o.fst.imp fun x st1 μ1 H1 e1 s1 o1 v hv => ?_⟩
    exact truD_rep s1 hv o1
def bD (d : D) : M Bool := fun st => match d with
  | .bl b => some (.ok b st)
  | _ => none
def eB (f : EF) : En → M Bool := fun δ => (f δ).bind bD
theorem bD_rep {K : PySem.W.Frag} {μ : Mu} {ν : List Addr} {H : Hp} {st : Sto} (S : StoOk K μ ν H st) {d : D} {v : V} {k : Bool → Sto → Mu → Hp → Prop} (h : Rep K μ (hid μ ν H) d v) (o : Out K ν E μ H (bD d st) k) : ∃ b, v = .bl b ∧ k b st μ H := by
  unfold bD at o
  split at o
  · exact ⟨_, rep_bl h, o.now S⟩
  · exact o.elim
theorem tDb_test {K : PySem.W.Frag} {f : EF} {t : TE} (ht : ∀ σ H Q, tD K E f σ H Q → t σ H Q) {σ : L2.St} {H : Hp} {Q : Bool → Hp → Prop} (h : tDb K E (eB f) σ H Q) : tTest t σ H Q := by
  obtain ⟨μ, ν, δ, st, S, o⟩ := h
  refine ht _ _ _ ⟨μ, ν, δ, st, S, o.fst.imp fun x st1 μ1 H1 e1 s1 o1 v hv => ?_⟩
  obtain ⟨b, e, q⟩ := bD_rep s1 hv o1
  exact ⟨b, e, q⟩
theorem dt_val {e : Expr} {f : EF} (h : DE X E e f) (he : ∀ whole, isTrue e X.env whole = (do let v ← whole; standAt e.pos; holding [v] (truthy v)) := by intro _; rfl) : DT X E e (eB f) :=
  pt_imp (pt_val h he) fun σ H Q h => tDb_test (fun _ _ _ z => z) h
theorem dt_cmp {a b : Expr} {op : CmpOp} {pos : Pos} {r : D → D → M D} {fa fb : EF} (ho : OpR X (compareOp op) (rD2 X.K E r)) (ha : DE X E a fa) (hb : DE X E b fb) (hm : behindInMarks op b = false) : DT X E (.Compare a [op] [b] pos) (eB (eOp2 r fa fb)) :=
  pt_imp (pt_cmpR ho ha hb hm) fun σ H Q h => tDb_test (fun _ _ _ z => tD_op2 z) h
/-- a op b op' c -/
def eCh (r r' : D → D → M D) (fa fb fc : EF) : EF := fun δ => (fa δ).bind fun x => (fb δ).bind fun y => (r x y).bind fun z => (bD z).bind fun b => if b = true then (fc δ).bind fun w => r' y w else M.pure (.bl false)
theorem tD_ch {K : PySem.W.Frag} {r r' : D → D → M D} {fa fb fc : EF} {σ : L2.St} {H : Hp} {Q : VK} (h : tD K E (eCh r r' fa fb fc) σ H Q) : tChain (rD2 K E r) (rD2 K E r') (tD K E fa) (tD K E fb) (tD K E fc) σ H Q := by
  obtain ⟨μ, ν, δ, st, S, o⟩ := h
  refine ⟨μ, ν, δ, st, S, o.fst.imp fun x st1 μ1 H1 e1 s1 o1 v hv => ?_⟩
  have S1 := S.ext e1 s1
  refine ⟨μ1, ν, δ, st1, S1, o1.fst.imp fun y st2 μ2 H2 e2 s2 o2 u hu => ?_⟩
  have S2 := S1.ext e2 s2
  refine ⟨μ2, ν, x, y, st2, s2, hv.ext e2, hu, o2.fst.imp fun z st3 μ3 H3 e3 s3 o3 w hw => ?_⟩
  have S3 := S2.ext e3 s3
  obtain ⟨b, rfl, o4⟩ := bD_rep s3 hw o3.fst
  refine ⟨b, rfl, ?_⟩
  cases b with
  | false =>
    rw [if_neg (by decide)] at o4 ⊢
    exact o4.ret s3 _ to_bl
  | true =>
    rw [if_pos rfl] at o4 ⊢
    refine ⟨μ3, ν, δ, st3, S3, o4.fst.imp fun w' st4 μ4 H4 e4 s4 o5 u' hu' => ?_⟩
    exact ⟨μ4, ν, y, w', st4, s4, (hu.ext e3).ext e4, hu', o5⟩
theorem de_ch {a b c : Expr} {op op' : CmpOp} {pos : Pos} {r r' : D → D → M D} {fa fb fc : EF} (ho : OpR X (compareOp op) (rD2 X.K E r)) (ho' : OpR X (compareOp op') (rD2 X.K E r')) (ha : DE X E a fa) (hb : DE X E b fb) (hc : DE X E c fc)
    (hm : lastMarks [op, op'] [b, c] = false := by with_unfolding_all rfl) : DE X E (.Compare a [op, op'] [b, c] pos) (eCh r r' fa fb fc) := pe_imp (pe_chain ho ho' ha hb hc hm) fun σ H Q h => tD_ch h
theorem dt_ch {a b c : Expr} {op op' : CmpOp} {pos : Pos} {r r' : D → D → M D} {fa fb fc : EF} (ho : OpR X (compareOp op) (rD2 X.K E r)) (ho' : OpR X (compareOp op') (rD2 X.K E r')) (ha : DE X E a fa) (hb : DE X E b fb) (hc : DE X E c fc)
    (hm : lastMarks [op, op'] [b, c] = false := by with_unfolding_all rfl) : DT X E (.Compare a [op, op'] [b, c] pos) (eB (eCh r r' fa fb fc)) := pt_imp (pt_chain ho ho' ha hb hc hm) fun σ H Q h => tDb_test (fun _ _ _ z => tD_ch z) h
def tAndD (f g : En → M Bool) : En → M Bool := fun δ => (f δ).bind fun b => if b = true then g δ else M.pure false
def tOrD (f g : En → M Bool) : En → M Bool := fun δ => (f δ).bind fun b => if b = true then M.pure true else g δ
def tNotD (f : En → M Bool) : En → M Bool := fun δ => (f δ).bind fun b => M.pure (!b)
abbrev DW (X : Cx) (E : XK) (e : Expr) (f : En → M Bool) : Prop := PW X e (tDb X.K E f)
theorem pw_imp {e : Expr} {t t' : TT} (h : PW X e t) (i : ∀ σ H Q, t' σ H Q → t σ H Q) : PW X e t' := ⟨fun wh pins s σ H Q I q => h.run wh pins s σ H Q I (i _ _ _ q)⟩
section
variable {a b : Expr} {rest : List Expr} {pos : Pos} {f g : En → M Bool}
theorem dw_and1 (h : DT X E a f) : DW X E (.BoolOp .And [a] pos) f := pw_and1 h
theorem dw_or1 (h : DT X E a f) : DW X E (.BoolOp .Or [a] pos) f := pw_or1 h
theorem dw_and (h : DT X E a f) (h2 : DW X E (.BoolOp .And (b :: rest) pos) g) : DW X E (.BoolOp .And (a :: b :: rest) pos) (tAndD f g) := pw_imp (pw_and h h2) fun σ H Q ⟨μ, ν, δ, st, S, o⟩ => by
  refine ⟨μ, ν, δ, st, S, o.fst.imp fun x st1 μ1 H1 e1 s1 o1 => ?_⟩
  cases x with
  | true => exact ⟨μ1, ν, δ, st1, S.ext e1 s1, o1⟩
  | false => exact o1.ret s1
theorem dw_or (h : DT X E a f) (h2 : DW X E (.BoolOp .Or (b :: rest) pos) g) : DW X E (.BoolOp .Or (a :: b :: rest) pos) (tOrD f g) := pw_imp (pw_or h h2) fun σ H Q ⟨μ, ν, δ, st, S, o⟩ => by
  refine ⟨μ, ν, δ, st, S, o.fst.imp fun x st1 μ1 H1 e1 s1 o1 => ?_⟩
  cases x with
  | false => exact ⟨μ1, ν, δ, st1, S.ext e1 s1, o1⟩
  | true => exact o1.ret s1
theorem dt_not (h : DT X E a f) : DT X E (.UnaryOp .Not a pos) (tNotD f) := pt_imp (pt_not h) fun σ H Q ⟨μ, ν, δ, st, S, o⟩ => by
  refine ⟨μ, ν, δ, st, S, o.fst.imp fun x st1 μ1 H1 e1 s1 o1 => ?_⟩
  exact o1.ret s1
/-! and, or, not of bools as values -/
def eAnd (f g : EF) : EF := fun δ => (f δ).bind fun x => (bD x).bind fun b => if b = true then g δ else M.pure (.bl false)
def eOr (f g : EF) : EF := fun δ => (f δ).bind fun x => (bD x).bind fun b => if b = true then M.pure (.bl true) else g δ
def eNot (f : EF) : EF := fun δ => (f δ).bind fun x => (bD x).bind fun b => M.pure (.bl (!b))
variable {fa fb : EF} {op : BoolOp}
theorem de_one (h : DE X E a fa) : DE X E (.BoolOp op [a] pos) fa := pe_one h
theorem de_and (h : DE X E a fa) (h2 : DE X E (.BoolOp .And (b :: rest) pos) fb) : DE X E (.BoolOp .And (a :: b :: rest) pos) (eAnd fa fb) := pe_imp (pe_and h h2) fun σ H Q ⟨μ, ν, δ, st, S, o⟩ => by
  refine ⟨μ, ν, δ, st, S, o.fst.imp fun x st1 μ1 H1 e1 s1 o1 v hv => ?_⟩
  obtain ⟨c, rfl, o2⟩ := bD_rep s1 hv o1.fst
  refine ⟨c, rfl, ?_⟩
  cases c with
  | true => exact ⟨μ1, ν, δ, st1, S.ext e1 s1, o2⟩
  | false => exact o2.ret s1 _ to_bl
theorem de_or (h : DE X E a fa) (h2 : DE X E (.BoolOp .Or (b :: rest) pos) fb) : DE X E (.BoolOp .Or (a :: b :: rest) pos) (eOr fa fb) := pe_imp (pe_or h h2) fun σ H Q ⟨μ, ν, δ, st, S, o⟩ => by
  refine ⟨μ, ν, δ, st, S, o.fst.imp fun x st1 μ1 H1 e1 s1 o1 v hv => ?_⟩
  obtain ⟨c, rfl, o2⟩ := bD_rep s1 hv o1.fst
  refine ⟨c, rfl, ?_⟩
  cases c with
  | false => exact ⟨μ1, ν, δ, st1, S.ext e1 s1, o2⟩
  | true => exact o2.ret s1 _ to_bl
theorem de_not (h : DE X E a fa) : DE X E (.UnaryOp .Not a pos) (eNot fa) := pe_imp (pe_not h) fun σ H Q ⟨μ, ν, δ, st, S, o⟩ => by
  refine ⟨μ, ν, δ, st, S, o.fst.imp fun x st1 μ1 H1 e1 s1 o1 v hv => ?_⟩
  obtain ⟨c, rfl, o2⟩ := bD_rep s1 hv o1.fst
  exact ⟨c, rfl, o2.ret s1 _ to_bl⟩
def eIf (c : En → M Bool) (fa fb : EF) : EF := fun δ => (c δ).bind fun b => if b = true then fa δ else fb δ
theorem de_if {c : Expr} {fc : En → M Bool} (hc : DT X E c fc) (ha : DE X E a fa) (hb : DE X E b fb) : DE X E (.IfExp c a b pos) (eIf fc fa fb) := pe_imp (pe_ifExp hc ha hb) fun σ H Q ⟨μ, ν, δ, st, S, o⟩ => by
  refine ⟨μ, ν, δ, st, S, o.fst.imp fun x st1 μ1 H1 e1 s1 o1 => ?_⟩
  cases x with
  | true => exact ⟨μ1, ν, δ, st1, S.ext e1 s1, o1⟩
  | false => exact ⟨μ1, ν, δ, st1, S.ext e1 s1, o1⟩
end
end

/-! ### statements -/
section
variable {X : Cx} {E : XK} {pos : Pos}
def sNext : SF := fun δ => M.pure (.nx δ)
def sSeq (f g : SF) : SF := fun δ => (f δ).bind fun fl => match fl with
  | .nx δ' => g δ'
  | fl => M.pure fl
theorem dss_nil : DSs X E [] sNext := pss_imp pss_nil fun T σ H ⟨μ, ν, δ, st, S, o⟩ => o.ret S.sto σ S.env
theorem dss_one {s : Stmt} {f : SF} (h : DSt X E s f) : DSs X E [s] f := pss_one h
theorem dss_cons {s : Stmt} {r : List Stmt} {f g : SF} (h : DSt X E s f) (h2 : DSs X E r g) : DSs X E (s :: r) (sSeq f g) := pss_imp (pss_cons h h2) fun T σ H ⟨μ, ν, δ, st, S, o⟩ => by
  refine ⟨μ, ν, δ, st, S, o.fst.imp fun fl st1 μ1 H1 e1 s1 o1 => ?_⟩
  cases fl with
  | nx δ' => exact fun σ' hσ => ⟨μ1, ν, δ', st1, ⟨s1, hσ⟩, o1⟩
  | rt d => exact o1.ret s1
  | bk δ' => exact o1.ret s1
  | ct δ' => exact o1.ret s1
def sRet (f : EF) : SF := fun δ => (f δ).bind fun d => M.pure (.rt d)
theorem ds_ret {e : Expr} {f : EF} (h : DE X E e f) : DSt X E (.Return (some e) pos) (sRet f) := ps_imp (ps_ret h) fun T σ H ⟨μ, ν, δ, st, S, o⟩ => by
  refine ⟨μ, ν, δ, st, S, o.fst.imp fun d st1 μ1 H1 e1 s1 o1 v hv => ?_⟩
  exact o1.ret s1 v hv
def sIf (c : En → M Bool) (f g : SF) : SF := fun δ => (c δ).bind fun b => if b = true then f δ else g δ
theorem ds_if {c : Expr} {a b : List Stmt} {fc : En → M Bool} {f g : SF} (hc : DT X E c fc) (ha : DSs X E a f) (hb : DSs X E b g) : DSt X E (.If c a b pos) (sIf fc f g) := ps_imp (ps_if hc ha hb) fun T σ H ⟨μ, ν, δ, st, S, o⟩ => by
  refine ⟨μ, ν, δ, st, S, o.fst.imp fun x st1 μ1 H1 e1 s1 o1 => ?_⟩
  cases x with
  | true => exact ⟨μ1, ν, δ, st1, S.ext e1 s1, o1⟩
  | false => exact ⟨μ1, ν, δ, st1, S.ext e1 s1, o1⟩
def sExpr (f : EF) : SF := fun δ => (f δ).bind fun _ => M.pure (.nx δ)
theorem ds_expr {e : Expr} {f : EF} (h : DE X E e f) (hs : swapsWith e none pos.line X.env = pure false := by rfl) : DSt X E (.Expr e pos) (sExpr f) := ps_imp (ps_expr h hs) fun T σ H ⟨μ, ν, δ, st, S, o⟩ => by
  refine ⟨μ, ν, δ, st, S, o.fst.imp fun d st1 μ1 H1 e1 s1 o1 v hv => ?_⟩
  exact o1.ret s1 σ (S.env.ext e1)
def sPass : SF := sNext
theorem ds_pass : DSt X E (.Pass pos) sNext := ps_imp ps_pass fun T σ H ⟨μ, ν, δ, st, S, o⟩ => o.ret S.sto σ S.env
def sBreak : SF := fun δ => M.pure (.bk δ)
def sCont : SF := fun δ => M.pure (.ct δ)
theorem ds_break : DSt X E (.Break pos) sBreak := ps_imp ps_break fun T σ H ⟨μ, ν, δ, st, S, o⟩ => o.ret S.sto σ S.env
theorem ds_cont : DSt X E (.Continue pos) sCont := ps_imp ps_continue fun T σ H ⟨μ, ν, δ, st, S, o⟩ => o.ret S.sto σ S.env

/-! ### targets -/
abbrev TgF := D → En → M En
def tDG (K : PySem.W.Frag) (E : XK) (g : TgF) : TG := fun v σ H Q => ∃ μ ν d δ st, Sit K μ ν δ st σ H ∧ Rep K μ (hid μ ν H) d v ∧ Out K ν E μ H (g d δ st) fun δ' st' μ' H' => ∀ σ', SimE K μ' (hid μ' ν H') δ' σ' → Q σ' H'
abbrev DG (X : Cx) (E : XK) (tg : Expr) (g : TgF) : Prop := PG X tg (tDG X.K E g)
theorem pg_imp {e : Expr} {t t' : TG} (h : PG X e t) (i : ∀ v σ H Q, t' v σ H Q → t v σ H Q) : PG X e t' := ⟨fun pins s σ H v u Q I r q => h.run pins s σ H v u Q I r (i _ _ _ _ q)⟩
def gN (i : Nat) : TgF := fun d δ => M.pure (δ.set i (some d))
theorem dg_name {i : Nat} {e : Expr} (h : PG X e (gName i)) : DG X E e (gN i) := pg_imp h fun v σ H Q ⟨μ, ν, d, δ, st, S, hv, o⟩ => o.ret S.sto _ (S.env.set hv)
def gTs : List TgF → List D → En → M En
  | [], [], δ => M.pure δ
  | g :: gs, d :: ds, δ => (g d δ).bind fun δ' => gTs gs ds δ'
  | _, _, _ => M.no
def gT (gs : List TgF) : TgF := fun d δ st => match asT d with
  | some xs => if xs.length = gs.length then gTs gs xs δ st else none
  | none => none
def tDGs (K : PySem.W.Frag) (E : XK) (gs : List TgF) : TGs := fun vs σ H Q => ∃ μ ν ds δ st, Sit K μ ν δ st σ H ∧ Reps K μ (hid μ ν H) ds vs ∧ Out K ν E μ H (gTs gs ds δ st) fun δ' st' μ' H' => ∀ σ', SimE K μ' (hid μ' ν H') δ' σ' → Q σ' H'
abbrev DGs (X : Cx) (E : XK) (tg : List Expr) (g : List TgF) : Prop := PGs X tg (tDGs X.K E g)
theorem pgs_imp {e : List Expr} {t t' : TGs} (h : PGs X e t) (i : ∀ v σ H Q, t' v σ H Q → t v σ H Q) : PGs X e t' := ⟨fun pins s σ H v u Q I r q => h.run pins s σ H v u Q I r (i _ _ _ _ q)⟩
theorem dgs_nil : DGs X E [] [] := pgs_imp pgs_nil fun v σ H Q ⟨μ, ν, ds, δ, st, S, hv, o⟩ => by
  cases ds with
  | nil =>
    unfold Reps at hv
    exact ⟨hv, o.ret S.sto σ S.env⟩
  | cons d ds => exact o.elim
theorem dgs_cons {e : Expr} {es : List Expr} {g : TgF} {gs : List TgF} (h1 : DG X E e g) (h2 : DGs X E es gs) (hs : (assignEach (e :: es) X.env).map (·.2) = assign e X.env :: (assignEach es X.env).map (·.2) := by rfl) : DGs X E (e :: es) (g :: gs) :=
  pgs_imp (pgs_cons h1 h2 hs) fun v σ H Q ⟨μ, ν, ds, δ, st, S, hv, o⟩ => by
    cases ds with
    | nil => exact o.elim
    | cons d ds =>
      unfold Reps at hv
      obtain ⟨w, r, rfl, hw, hr⟩ := hv
      refine ⟨w, r, rfl, μ, ν, d, δ, st, S, hw, ?_⟩
      refine Out.imp (Out.fst (m := g d δ) (f := fun δ' => gTs gs ds δ') o) fun δ' st1 μ1 H1 e1 s1 o1 σ' hσ => ?_
      exact ⟨μ1, ν, ds, δ', st1, ⟨s1, hσ⟩, hr.ext e1, o1⟩
theorem dg_tup {es : List Expr} {k : Nat} {gs : List TgF} {n : Nat} (hc : X.calm = true) (h : DGs X E es gs) (hl : gs.length = n := by rfl)
    (hn : (assignEach es X.env).length = n := by rfl) (hst : (assignEach es X.env).findIdx? (·.1) = none := by rfl) : DG X E (.Tuple es k pos) (gT gs) :=
  pg_imp (pg_tup (n := n) hc h hn hst) fun v σ H Q ⟨μ, ν, d, δ, st, S, hv, o⟩ => by
    unfold gT at o
    split at o
    · rename_i xs hx
      split at o
      · rename_i hlen
        obtain ⟨a, vs, rfl, e2, e3, e4⟩ := asT_rep hv hx
        exact ⟨a, vs, rfl, e2, by rw [← e4.len, hlen, hl], μ, ν, xs, δ, st, S, e4, o⟩
      · exact o.elim
    · exact o.elim
def sAsg (f : EF) (g : TgF) : SF := fun δ => (f δ).bind fun d => (g d δ).bind fun δ' => M.pure (.nx δ')
theorem tDS_asg {K : PySem.W.Frag} {f : EF} {g : TgF} {T : Ends} {σ : L2.St} {H : Hp} (h : tDS K E (sAsg f g) T σ H) : tAsg (tD K E f) (tDG K E g) T σ H := by
  obtain ⟨μ, ν, δ, st, S, o⟩ := h
  refine ⟨μ, ν, δ, st, S, o.fst.imp fun d st1 μ1 H1 e1 s1 o1 v hv => ?_⟩
  refine ⟨μ1, ν, d, δ, st1, S.ext e1 s1, hv, o1.fst.imp fun δ' st2 μ2 H2 e2 s2 o2 σ' hσ => ?_⟩
  exact o2.ret s2 σ' hσ
theorem ds_asg {tg e : Expr} {f : EF} {g : TgF} (he : DE X E e f) (hg : DG X E tg g) (hs : swapsWithSole [tg] e pos.line X.env = pure false := by rfl) (hw : swappedStores [tg] e X.env = pure none := by rfl)
    (h1 : (assignEach [tg] X.env).map (·.2) = [assign tg X.env] := by rfl) : DSt X E (.Assign [tg] e pos) (sAsg f g) := ps_imp (ps_asg he hg hs hw h1) fun T σ H h => tDS_asg h
theorem ds_set {i : Nat} {x : Str} {e : Expr} {f : EF} {pos' : Pos} (he : DE X E e f) (h : ∀ {te : TE}, PE X e te → PS X (.Assign [.Name x pos'] e pos) (tAsg te (gName i))) : DSt X E (.Assign [.Name x pos'] e pos) (sAsg f (gN i)) :=
  ps_imp (h he) fun T σ H ⟨μ, ν, δ, st, S, o⟩ => by
    refine ⟨μ, ν, δ, st, S, o.fst.imp fun d st1 μ1 H1 e1 s1 o1 v hv => ?_⟩
    exact (o1.fst.ret s1).ret s1 _ ((S.env.ext e1).set hv)
/-- a, b = x, y -/
def sPar2 (i j : Nat) (f : En → M (List D)) : SF := fun δ => (f δ).bind fun ds => match ds with
  | [x, y] => M.pure (.nx ((δ.set i (some x)).set j (some y)))
  | _ => M.no
theorem ds_par {i j : Nat} {s : Stmt} {f : En → M (List D)} {es : List Expr} (he : DA X E es f) (h : ∀ {te : TA}, PA X es te → PS X s (tPar i j te)) : DSt X E s (sPar2 i j f) :=
  ps_imp (h he) fun T σ H ⟨μ, ν, δ, st, S, o⟩ => by
    refine ⟨μ, ν, δ, st, S, o.fst.imp fun ds st1 μ1 H1 e1 s1 o1 vs hv => ?_⟩
    match ds, o1, hv with
    | [x, y], o1, hv =>
      unfold Reps at hv
      obtain ⟨v, r, rfl, hv1, hr⟩ := hv
      unfold Reps at hr
      obtain ⟨w, r2, rfl, hw1, hr2⟩ := hr
      unfold Reps at hr2
      subst hr2
      exact ⟨v, w, rfl, o1.ret s1 _ (((S.env.ext e1).set hv1).set hw1)⟩
    | [], o1, _ => exact o1.elim
    | [_], o1, _ => exact o1.elim
    | _ :: _ :: _ :: _, o1, _ => exact o1.elim
def sPar3 (i j l : Nat) (f : En → M (List D)) : SF := fun δ => (f δ).bind fun ds => match ds with
  | [x, y, z] => M.pure (.nx (((δ.set i (some x)).set j (some y)).set l (some z)))
  | _ => M.no
theorem ds_par3 {i j l : Nat} {s : Stmt} {f : En → M (List D)} {es : List Expr} (he : DA X E es f) (h : ∀ {te : TA}, PA X es te → PS X s (tPar3 i j l te)) : DSt X E s (sPar3 i j l f) :=
  ps_imp (h he) fun T σ H ⟨μ, ν, δ, st, S, o⟩ => by
    refine ⟨μ, ν, δ, st, S, o.fst.imp fun ds st1 μ1 H1 e1 s1 o1 vs hv => ?_⟩
    match ds, o1, hv with
    | [x, y, z], o1, hv =>
      unfold Reps at hv
      obtain ⟨v, r, rfl, hv1, hr⟩ := hv
      unfold Reps at hr
      obtain ⟨w, r2, rfl, hw1, hr2⟩ := hr
      unfold Reps at hr2
      obtain ⟨u, r3, rfl, hu1, hr3⟩ := hr2
      unfold Reps at hr3
      subst hr3
      exact ⟨v, w, u, rfl, o1.ret s1 _ ((((S.env.ext e1).set hv1).set hw1).set hu1)⟩
    | [], o1, _ => exact o1.elim
    | [_], o1, _ => exact o1.elim
    | [_, _], o1, _ => exact o1.elim
    | _ :: _ :: _ :: _ :: _, o1, _ => exact o1.elim
/-! ### a list's place changed -/
def setD (o i d : D) : M Unit := fun st => match o, i with
  | .obj j, .int k => match st[j]? with
    | some (.lst xs) => match ixN xs.length k with
      | some n => some (.ok () (st.set j (.lst (xs.set n d))))
      | none => none
    | _ => none
  | _, _ => none
def gSubD (fo fi : EF) : TgF := fun d δ => (fo δ).bind fun o => (fi δ).bind fun i => (setD o i d).bind fun _ => M.pure δ
theorem dg_sub {o i : Expr} {fo fi : EF} (ho : DE X E o fo) (hi : DE X E i fi)
    (ha : ∀ v, assign (.Subscript o i pos) X.env v = (do
      let ov ← holding [v] (eval o X.env)
      let iv ← holding [v, ov] (eval i X.env)
      standAt pos
      holding [v, ov, iv] (setItem ov iv v)
      release [v, ov, iv] []) := by intro _; rfl) : DG X E (.Subscript o i pos) (gSubD fo fi) := pg_imp (pg_sub ho hi set_list ha) fun v σ H Q ⟨μ, ν, d, δ, st, S, hv, o⟩ => by
  refine ⟨μ, ν, δ, st, S, o.fst.imp fun x st1 μ1 H1 e1 s1 o1 vx hx => ?_⟩
  have S1 := S.ext e1 s1
  refine ⟨μ1, ν, δ, st1, S1, o1.fst.imp fun y st2 μ2 H2 e2 s2 o2 vy hy => ?_⟩
  have S2 := S1.ext e2 s2
  have o3 := o2.fst
  unfold setD at o3
  split at o3
  · rename_i j k
    split at o3
    · rename_i xs hc
      split at o3
      · rename_i n hn
        obtain ⟨⟨a, vs, h1, h2, h3, h4⟩, hav⟩ := s2.obj (hx.ext e2) hc
        refine ⟨a, vs, k, n, hav a h1, rep_int hy, h2, by rw [← h4.len]; exact hn, ?_⟩
        have hv2 := (hv.ext e1).ext e2
        have e3 : Ext ν μ2 H2 μ2 (upd H2 a (.lst (vs.set n v))) := (s2.put (c := .dead) h1 trivial).2
        have P := s2.put (o := .lst (vs.set n v)) (c := .lst (xs.set n d)) h1 ⟨a, _, h1, upd_same, by rw [List.length_set]; exact h3, (h4.set hv2 n).ext e3⟩
        have q := o3 _ _ P.2 P.1
        exact q.ret P.1 σ (S2.env.ext P.2)
      · exact o3.elim
    · exact o3.elim
  · exact o3.elim
end
end DL
end
section
namespace DL
open PySem PySem.Spec PyProof.Rows L2

/-! ### one object beside the rest -/
def rem (a : Addr) (H : Hp) : Hp := fun b => if b = a then none else H b
section
variable {K : PySem.W.Frag} {μ μ' : Mu} {ν : List Addr} {H H' : Hp} {st st' : Sto} {E : XK} {a : Addr}
theorem rem_same : rem a H a = none := by unfold rem; rw [if_pos rfl]
theorem rem_ne {b : Addr} (h : b ≠ a) : rem a H b = H b := by unfold rem; rw [if_neg h]
theorem hid_rem : hid μ (a :: ν) H = hid μ ν (rem a H) := by
  funext b
  by_cases hb : b = a
  · subst hb
    unfold hid
    rw [if_pos (.inr (List.mem_cons_self)), rem_same]
    split <;> rfl
  · unfold hid
    rw [rem_ne hb]
    by_cases h1 : some b ∈ μ ∨ b ∈ ν
    · rw [if_pos h1, if_pos (h1.elim .inl fun z => .inr (List.mem_cons_of_mem _ z))]
    · rw [if_neg h1, if_neg]
      intro z
      rcases z with z | z
      · exact h1 (.inl z)
      · rcases List.mem_cons.mp z with z | z
        · exact hb z
        · exact h1 (.inr z)
theorem ext_rem (e : Ext (a :: ν) μ H μ' H') : Ext ν μ (rem a H) μ' (rem a H') := by
  refine ⟨e.mu, ?_, fun b hb => ?_⟩
  · rw [← hid_rem, ← hid_rem]; exact e.same
  · by_cases z : b = a
    · subst z; rw [rem_same, rem_same]
    · rw [rem_ne z, rem_ne z]; exact e.out b (List.mem_cons_of_mem _ hb)
theorem sto_rem (S : StoOk K μ (a :: ν) H st) (hν : a ∉ ν) : StoOk K μ ν (rem a H) st := by
  have na : ∀ b, some b ∈ μ → b ≠ a := fun b hb z => by subst z; exact (S.out _ (List.mem_cons_self)).2 hb
  refine ⟨S.len, S.inj, fun b hb => by rw [rem_ne (na b hb)]; exact S.live b hb, fun b hb => ?_, fun i c hc => ?_⟩
  · rw [rem_ne (fun z => by subst z; exact hν hb)]; exact S.out b (List.mem_cons_of_mem _ hb)
  · have x := S.cell i c hc
    cases c with
    | dead => trivial
    | lst xs =>
      obtain ⟨b, vs, h1, h2, h3, h4⟩ := x
      rw [hid_rem] at h4
      exact ⟨b, vs, h1, by rw [rem_ne (na b (mem_of_get h1))]; exact h2, h3, h4⟩
    | ins C fs =>
      obtain ⟨b, dx, gs, h1, h2, h3⟩ := x
      rw [hid_rem] at h3
      exact ⟨b, dx, gs, h1, by rw [rem_ne (na b (mem_of_get h1))]; exact h2, h3⟩
theorem sto_unrem (S : StoOk K μ ν (rem a H) st) {o : HO} (ha : H a = some o) (hν : a ∉ ν) : StoOk K μ (a :: ν) H st := by
  have na : ∀ b, some b ∈ μ → b ≠ a := fun b hb z => by
    subst z
    obtain ⟨u, e⟩ := S.live b hb
    rw [rem_same] at e; cases e
  refine ⟨S.len, S.inj, fun b hb => by rw [← rem_ne (H := H) (na b hb)]; exact S.live b hb, fun b hb => ?_, fun i c hc => ?_⟩
  · rcases List.mem_cons.mp hb with z | z
    · subst z
      exact ⟨⟨o, ha⟩, fun q => na _ q rfl⟩
    · obtain ⟨⟨u, e⟩, q⟩ := S.out b z
      exact ⟨⟨u, by rw [rem_ne (fun y => by subst y; exact hν z)] at e; exact e⟩, q⟩
  · have x := S.cell i c hc
    cases c with
    | dead => trivial
    | lst xs =>
      obtain ⟨b, vs, h1, h2, h3, h4⟩ := x
      rw [← hid_rem] at h4
      exact ⟨b, vs, h1, by rw [← rem_ne (H := H) (na b (mem_of_get h1))]; exact h2, h3, h4⟩
    | ins C fs =>
      obtain ⟨b, dx, gs, h1, h2, h3⟩ := x
      rw [← hid_rem] at h3
      exact ⟨b, dx, gs, h1, by rw [← rem_ne (H := H) (na b (mem_of_get h1))]; exact h2, h3⟩
theorem rem_upd {o : HO} (h : H a = none) : rem a (upd H a o) = H := by
  funext b
  by_cases z : b = a
  · subst z; rw [rem_same, h]
  · rw [rem_ne z, upd_ne z]
theorem rem_upd' {o : HO} : rem a (upd H a o) = rem a H := by
  funext b
  by_cases z : b = a
  · subst z; rw [rem_same, rem_same]
  · rw [rem_ne z, rem_ne z, upd_ne z]
theorem upd_rem {o : HO} (h : H a = some o) : upd (rem a H) a o = H := by
  funext b
  by_cases z : b = a
  · subst z; rw [upd_same, h]
  · rw [upd_ne z, rem_ne z]
/-- run beside the object at a, no exception -/
theorem Out.beside {α : Type} {o : Option (R α)} {k : α → Sto → Mu → Hp → Prop} (hν : a ∉ ν) (h : Out K ν E0 μ (rem a H) o k) : Out K (a :: ν) E0 μ H o fun x st' μ' H' => k x st' μ' (rem a H') ∧ H' a = H a := by
  unfold Out at h ⊢
  cases o with
  | none => exact h
  | some r =>
    cases r with
    | ok x st' => exact fun μ2 H2 e s => ⟨h μ2 _ (ext_rem e) (sto_rem s hν), e.out a (List.mem_cons_self)⟩
    | er C fs st' => exact fun μ2 H2 d e s x => h μ2 (rem a H2) d (ext_rem e) (sto_rem s hν) (by
        cases fs with
        | none => exact x
        | some fs =>
          obtain ⟨b, gs, h1, h2, h3⟩ := x
          rw [hid_rem] at h2 h3
          exact ⟨b, gs, h1, h2, h3⟩)
/-- no exception comes -/
def noer {α : Type} (m : M α) : M α := fun st => match m st with
  | some (.er _ _ _) => none
  | r => r
theorem Out.noer {α : Type} {m : M α} {k : α → Sto → Mu → Hp → Prop} (h : Out K ν E μ H (DL.noer m st) k) : Out K ν E0 μ H (m st) k := by
  unfold DL.noer at h
  cases e : m st with
  | none => rw [e] at h; exact h
  | some r =>
    rw [e] at h
    cases r with
    | ok a st' => exact h
    | er C fs st' => exact h.elim
end

/-! ### what is walked -/
/-- all that was seen is seen, in whatever frame -/
structure Seen (ν : List Addr) (μ0 : Mu) (H0 : Hp) (ν' : List Addr) (μ : Mu) (H : Hp) : Prop where
  mu : MuExt μ0 μ
  same : Same (hid μ0 ν H0) (hid μ ν' H)
theorem Ext.seen {ν : List Addr} {μ0 μ : Mu} {H0 H : Hp} (e : Ext ν μ0 H0 μ H) : Seen ν μ0 H0 ν μ H := ⟨e.mu, e.same⟩
theorem Seen.ext {ν ν' : List Addr} {μ0 μ μ' : Mu} {H0 H H' : Hp} (a : Seen ν μ0 H0 ν' μ H) (b : Ext ν' μ H μ' H') : Seen ν μ0 H0 ν' μ' H' := ⟨a.mu.trans b.mu, a.same.trans b.same⟩
structure Gives (K : PySem.W.Frag) (ν : List Addr) (μ0 : Mu) (H0 : Hp) (J : It) (xs : List D) : Prop where
  go : ∀ i ν' μ H, Seen ν μ0 H0 ν' μ H → i < xs.length → J.go i H
  stop : ∀ ν' μ H, Seen ν μ0 H0 ν' μ H → J.stop xs.length H
  yld : ∀ i ν' μ H st x H', Seen ν μ0 H0 ν' μ H → StoOk K μ ν' H st → i < xs.length → J.yld i H x H' → ∃ d, xs[i]? = some d ∧ Ext ν' μ H μ H' ∧ StoOk K μ ν' H' st ∧ Rep K μ (hid μ ν' H') d x
abbrev ItF := En → M (List D)
def tDI (K : PySem.W.Frag) (E : XK) (f : ItF) : TI := fun σ H Rr => ∃ μ ν δ st, Sit K μ ν δ st σ H ∧ Out K ν E μ H (f δ st) fun xs st' μ' H' => ∀ J, Gives K ν μ' H' J xs → Rr J H'
abbrev DI (X : Cx) (E : XK) (tg it : Expr) (f : ItF) : Prop := PI X tg it (tDI X.K E f)
theorem pi_imp {X : Cx} {tg it : Expr} {t t' : TI} (h : PI X tg it t) (i : ∀ σ H Q, t' σ H Q → t σ H Q) : PI X tg it t' := ⟨fun pins s σ H Q I q => h.run pins s σ H Q I (i _ _ _ q)⟩
section
variable {K : PySem.W.Frag} {μ : Mu} {ν : List Addr} {H : Hp} {st : Sto}
/-- what is seen stays -/
theorem seen_sqL {a : Addr} {vs : List V} {ν' : List Addr} {μ' : Mu} {H' : Hp} (h : SqL K (hid μ ν H) a vs) (e : Seen ν μ H ν' μ' H') : SqL K H' a vs := hid_sub.seq (e.same.seq h)
theorem seen_sqT {a : Addr} {vs : List V} {ν' : List Addr} {μ' : Mu} {H' : Hp} (h : SqT K (hid μ ν H) a vs) (e : Seen ν μ H ν' μ' H') : SqT K H' a vs := sqT_same hid_sub (sqT_same e.same h)
theorem gives_list {a : Addr} {vs : List V} {xs : List D} (h : SqL K (hid μ ν H) a vs) (r : Reps K μ (hid μ ν H) xs vs) : Gives K ν μ H (Itl K a) xs where
  go := fun i ν' μ' H' e hi => by
    obtain ⟨v, h1, h2⟩ := r.get (List.getElem?_eq_getElem hi)
    exact ⟨vs, v, seen_sqL h e, h1⟩
  stop := fun ν' μ' H' e => ⟨vs, seen_sqL h e, by rw [r.len]; exact Nat.le_refl _⟩
  yld := fun i ν' μ' H' st x H2 e s hi ⟨e2, q⟩ => by
    subst e2
    obtain ⟨d, h1, h2⟩ := r.get' (q vs (seen_sqL h e))
    exact ⟨d, h1, .refl, s, Rep.mono e.mu e.same d x h2⟩
theorem gives_tup {a : Addr} {vs : List V} {xs : List D} (h : SqT K (hid μ ν H) a vs) (r : Reps K μ (hid μ ν H) xs vs) : Gives K ν μ H (Itt K a) xs where
  go := fun i ν' μ' H' e hi => by
    obtain ⟨v, h1, h2⟩ := r.get (List.getElem?_eq_getElem hi)
    exact ⟨vs, v, seen_sqT h e, h1⟩
  stop := fun ν' μ' H' e => ⟨vs, seen_sqT h e, by rw [r.len]; exact Nat.le_refl _⟩
  yld := fun i ν' μ' H' st x H2 e s hi ⟨e2, q⟩ => by
    subst e2
    obtain ⟨d, h1, h2⟩ := r.get' (q vs (seen_sqT h e))
    exact ⟨d, h1, .refl, s, Rep.mono e.mu e.same d x h2⟩
/-- lo, lo + 1, .. -/
def rngD (lo : Int) (n : Nat) : List D := (List.range n).map fun i => D.int (lo + (i : Nat))
theorem rngD_len {lo : Int} {n : Nat} : (rngD lo n).length = n := by unfold rngD; rw [List.length_map, List.length_range]
theorem rngD_get {lo : Int} {n i : Nat} (h : i < n) : (rngD lo n)[i]? = some (D.int (lo + (i : Nat))) := by
  unfold rngD
  rw [List.getElem?_map, List.getElem?_range h]
  rfl
theorem gives_rng {lo : Int} {n : Nat} : Gives K ν μ H (Itr lo n) (rngD lo n) where
  go := fun i _ _ _ _ hi => by rw [rngD_len] at hi; exact hi
  stop := fun _ _ _ _ => by rw [rngD_len]; exact Nat.le_refl _
  yld := fun i ν' μ' H' st x H2 e s hi ⟨e2, q⟩ => by
    subst e2; subst q
    rw [rngD_len] at hi
    exact ⟨_, rngD_get hi, .refl, s, to_int⟩
end
section
variable {X : Cx} {E : XK} {tg : Expr}
/-- over a list or tuple that stays as it is -/
def seqD (d : D) : M (List D) := fun st => match d with
  | .lst xs => some (.ok xs st)
  | .fl xs => some (.ok xs st)
  | .tup xs => some (.ok xs st)
  | _ => none
def lstD (d : D) : M (List D) := fun st => match d with
  | .lst xs => some (.ok xs st)
  | .fl xs => some (.ok xs st)
  | _ => none
def tupD (d : D) : M (List D) := fun st => match d with
  | .tup xs => some (.ok xs st)
  | _ => none
def iLst (f : EF) : ItF := fun δ => (f δ).bind lstD
def iTp (f : EF) : ItF := fun δ => (f δ).bind tupD
theorem di_list {e : Expr} {f : EF} (h : DE X E e f) : DI X E tg e (iLst f) := pi_imp (pi_list h) fun σ H Q ⟨μ, ν, δ, st, S, o⟩ => by
  refine ⟨μ, ν, δ, st, S, o.fst.imp fun d st1 μ1 H1 e1 s1 o1 v hv => ?_⟩
  unfold lstD at o1
  split at o1
  · unfold Rep at hv
    obtain ⟨a, vs, rfl, h2, h3, h4⟩ := hv
    exact ⟨a, rfl, ⟨vs, .inl (.inl (hid_some h2).1)⟩, o1.now s1 _ (gives_list (.inl (.inl h2)) h4)⟩
  · unfold Rep at hv
    obtain ⟨a, vs, rfl, h2, h3, h4⟩ := hv
    exact ⟨a, rfl, ⟨vs, hid_sub.seq h2⟩, o1.now s1 _ (gives_list h2 h4)⟩
  · exact o1.elim
theorem di_tup {e : Expr} {f : EF} (h : DE X E e f) : DI X E tg e (iTp f) := pi_imp (pi_tup h) fun σ H Q ⟨μ, ν, δ, st, S, o⟩ => by
  refine ⟨μ, ν, δ, st, S, o.fst.imp fun d st1 μ1 H1 e1 s1 o1 v hv => ?_⟩
  unfold tupD at o1
  split at o1
  · unfold Rep at hv
    obtain ⟨a, vs, rfl, h2, h3, h4⟩ := hv
    exact ⟨a, rfl, ⟨vs, sqT_same hid_sub h2⟩, o1.now s1 _ (gives_tup h2 h4)⟩
  · exact o1.elim
def rng1 (ds : List D) : M (List D) := fun st => match ds with
  | [.int n] => if -(2 ^ 62) ≤ n ∧ n < 2 ^ 62 then some (.ok (rngD 0 n.toNat) st) else none
  | _ => none
def rng2 (ds : List D) : M (List D) := fun st => match ds with
  | [.int a, .int b] => if (-(2 ^ 62) ≤ a ∧ a < 2 ^ 62 ∧ -(2 ^ 62) ≤ b ∧ b < 2 ^ 62) ∧ (b - a).toNat ≤ 2 ^ 62 then some (.ok (rngD a (b - a).toNat) st) else none
  | _ => none
def iR1 (f : En → M (List D)) : ItF := fun δ => (f δ).bind rng1
def iR2 (f : En → M (List D)) : ItF := fun δ => (f δ).bind rng2
theorem di_range1 {a : Expr} {f : En → M (List D)} {p pos : Pos} (hg : Gl X "range") (hm : X.mg "range" = none) (ha : DA X E [a] f) (hs : starEach [a] X.env = [(false, eval a X.env)] := by rfl) : DI X E tg (.Call (.Name "range" p) [a] [] pos) (iR1 f) :=
  pi_imp (pi_range1 hg hm ha hs) fun σ H Q ⟨μ, ν, δ, st, S, o⟩ => by
    refine ⟨μ, ν, δ, st, S, o.fst.imp fun d st1 μ1 H1 e1 s1 o1 vs hv => ?_⟩
    unfold rng1 at o1
    split at o1
    · rename_i n
      split at o1
      · rename_i hn
        unfold Reps at hv
        obtain ⟨v, r, rfl, hv1, hr⟩ := hv
        unfold Reps at hr
        subst hr
        rw [rep_int hv1]
        exact ⟨n, rfl, hn.1, hn.2, o1.now s1 _ gives_rng⟩
      · exact o1.elim
    · exact o1.elim
theorem di_range2 {a b : Expr} {f : En → M (List D)} {p pos : Pos} (hg : Gl X "range") (hm : X.mg "range" = none) (ha : DA X E [a, b] f) (hs : starEach [a, b] X.env = [(false, eval a X.env), (false, eval b X.env)] := by rfl) (hs2 : starEach [b] X.env = [(false, eval b X.env)] := by rfl) : DI X E tg (.Call (.Name "range" p) [a, b] [] pos) (iR2 f) :=
  pi_imp (pi_range2 hg hm ha hs hs2) fun σ H Q ⟨μ, ν, δ, st, S, o⟩ => by
    refine ⟨μ, ν, δ, st, S, o.fst.imp fun d st1 μ1 H1 e1 s1 o1 vs hv => ?_⟩
    unfold rng2 at o1
    split at o1
    · rename_i a b
      split at o1
      · rename_i hn
        unfold Reps at hv
        obtain ⟨v, r, rfl, hv1, hr⟩ := hv
        unfold Reps at hr
        obtain ⟨w, r2, rfl, hw1, hr2⟩ := hr
        unfold Reps at hr2
        subst hr2
        rw [rep_int hv1, rep_int hw1]
        exact ⟨a, b, rfl, hn.1, o1.now s1 _ gives_rng⟩
      · exact o1.elim
    · exact o1.elim
/-- enumerate(xs): new pairs -/
def enumD (xs : List D) : List D := xs.zipIdx.map fun p => D.tup [.int (p.2 : Nat), p.1]
end

/-! ### for -/
def forM (g : TgF) (body : SF) : List D → En → M Fl
  | [], δ => M.pure (.nx δ)
  | x :: xs, δ => (g x δ).bind fun δ1 => (body δ1).bind fun fl => match fl with
    | .nx δ' => forM g body xs δ'
    | .ct δ' => forM g body xs δ'
    | .bk δ' => M.pure (.nx δ')
    | .rt d => M.pure (.rt d)
def sFor (it : ItF) (g : TgF) (body : SF) : SF := fun δ => (it δ).bind fun xs => forM g body xs δ
section
variable {X : Cx} {E : XK} {pos : Pos}
theorem tDS_for {K : PySem.W.Frag} {it : ItF} {g : TgF} {body : SF} {T : Ends} {σ : L2.St} {H : Hp} (h : tDS K E (sFor it g body) T σ H) : tFor (tDI K E it) (tDG K E g) (tDS K E body) T σ H := by
  obtain ⟨μ, ν, δ, st, S, o⟩ := h
  refine ⟨μ, ν, δ, st, S, o.fst.imp fun xs st1 μ1 H1 e1 s1 o1 J G => ?_⟩
  refine ⟨fun i m σ' H' => ∃ μ' δ' st', Sit K μ' ν δ' st' σ' H' ∧ Ext ν μ1 H1 μ' H' ∧ m = xs.length - i ∧ i ≤ xs.length ∧ Out K ν E μ' H' (forM g body (xs.drop i) δ' st') fun fl st2 μ2 H2 => endsD K ν T fl μ2 H2,
    ⟨_, μ1, δ, st1, S.ext e1 s1, .refl, rfl, Nat.zero_le _, o1⟩, fun i m σ2 H2 hW => ?_⟩
  obtain ⟨μ2, δ2, st2, S2, e2, rfl, hi, o2⟩ := hW
  by_cases hlt : i < xs.length
  · refine .inr ⟨G.go i ν μ2 H2 e2.seen hlt, _, fun σ' H' q => ⟨xs.length - (i + 1), by omega, q⟩, fun x H3 hy => ?_⟩
    obtain ⟨d, hd, e3, s3, hx⟩ := G.yld i ν μ2 H2 st2 x H3 e2.seen S2.sto hlt hy
    rw [List.drop_eq_getElem_cons hlt] at o2
    obtain rfl : xs[i] = d := by rw [List.getElem?_eq_getElem hlt] at hd; exact Option.some.inj hd
    refine ⟨μ2, ν, _, δ2, st2, S2.ext e3 s3, hx, (Out.fst (m := g xs[i] δ2) (Out.ext o2 e3)).imp fun δ3 st4 μ4 H4 e4 s4 o4 σ4 hσ4 => ?_⟩
    refine ⟨μ4, ν, δ3, st4, ⟨s4, hσ4⟩, o4.fst.imp fun fl st5 μ5 H5 e5 s5 o5 => ?_⟩
    have e25 := ((e2.trans e3).trans e4).trans e5
    cases fl with
    | nx δ5 => exact fun σ5 hσ5 => ⟨μ5, δ5, st5, ⟨s5, hσ5⟩, e25, rfl, hlt, o5⟩
    | ct δ5 => exact fun σ5 hσ5 => ⟨μ5, δ5, st5, ⟨s5, hσ5⟩, e25, rfl, hlt, o5⟩
    | bk δ5 => exact fun σ5 hσ5 => o5.ret s5 σ5 hσ5
    | rt d => exact o5.ret s5
  · have hz : i = xs.length := by omega
    subst hz
    rw [List.drop_length] at o2
    exact .inl ⟨G.stop ν μ2 H2 e2.seen, o2.ret S2.sto σ2 S2.env⟩
theorem ds_for {tg e : Expr} {body : List Stmt} {it : ItF} {g : TgF} {f : SF} (hp : PassesOwn (model X.prog X.w) X.A X.env X.xe) (hc : X.calm = true) (hi : DI X E tg e it) (hg : DG X E tg g) (hb : DSs X E body f)
    (hs : ∀ x, foldedSetIterable e X.env x = pure x := by intro _; rfl) : DSt X E (.For tg e body [] pos) (sFor it g f) := ps_imp (ps_for hp hc hi hg hb hs) fun T σ H h => tDS_for h
end

/-! ### comprehensions -/
theorem wipe_at {σ : L2.St} {vs : List Nat} {j : Nat} : (L2.wipe σ vs)[j]? = if j ∈ vs then (if j < σ.length then some none else none) else σ[j]? := by
  induction vs with
  | nil => rw [if_neg (by simp)]; rfl
  | cons v vs ih =>
    show ((L2.wipe σ vs).set v none)[j]? = _
    by_cases hv : v = j
    · subst hv
      rw [if_pos (List.mem_cons_self)]
      by_cases hl : v < σ.length
      · rw [List.getElem?_set_self (by rw [L2.wipe_length]; exact hl), if_pos hl]
      · rw [if_neg hl, List.getElem?_eq_none]
        rw [List.length_set, L2.wipe_length]
        omega
    · rw [List.getElem?_set_ne hv, ih]
      by_cases hj : j ∈ vs
      · rw [if_pos hj, if_pos (List.mem_cons_of_mem _ hj)]
      · rw [if_neg hj, if_neg]
        intro z
        rcases List.mem_cons.mp z with z | z
        · exact hv z.symm
        · exact hj z
theorem wipe_set {σ : L2.St} {vs : List Nat} {i : Nat} {o : Option V} (hi : i ∈ vs) : L2.wipe (σ.set i o) vs = L2.wipe σ vs := by
  apply List.ext_getElem?
  intro j
  rw [wipe_at, wipe_at, List.length_set]
  by_cases hj : j ∈ vs
  · rw [if_pos hj, if_pos hj]
  · rw [if_neg hj, if_neg hj, List.getElem?_set_ne]
    intro z; subst z; exact hj hi
theorem wipe_wipe {σ : L2.St} {vs : List Nat} : L2.wipe (L2.wipe σ vs) vs = L2.wipe σ vs := by
  apply List.ext_getElem?
  intro j
  rw [wipe_at, wipe_at, L2.wipe_length]
  by_cases hj : j ∈ vs
  · rw [if_pos hj, if_pos hj]
  · rw [if_neg hj]
/-- a comprehension's target: its names are the block's own -/
structure CG (K : PySem.W.Frag) (vs : List Nat) (t : TG) (g : TgF) : Prop where
  run : ∀ {μ : Mu} {ν : List Addr} {d : D} {δ : En} {st : Sto} {σ : L2.St} {H : Hp} {v : V} {Q : L2.St → Hp → Prop}, Sit K μ ν δ st σ H → Rep K μ (hid μ ν H) d v → L2.wipe σ vs = σ →
    Out K ν E0 μ H (g d δ st) (fun δ' st' μ' H' => ∀ σ', SimE K μ' (hid μ' ν H') δ' σ' → L2.wipe σ' vs = σ → Q σ' H') → t v σ H Q
theorem cg_name {K : PySem.W.Frag} {vs : List Nat} {i : Nat} (hi : i ∈ vs) : CG K vs (gName i) (gN i) := ⟨fun S hv hw o => o.ret S.sto _ (S.env.set hv) (by rw [wipe_set hi, hw])⟩
theorem cg_pair {K : PySem.W.Frag} {vs : List Nat} {i j : Nat} (hi : i ∈ vs) (hj : j ∈ vs) : CG K vs (gTup K 2 (gCons (gName i) (gCons (gName j) gNil))) (gT [gN i, gN j]) := ⟨fun {μ ν d δ st σ H v Q} S hv hw o => by
  unfold gT at o
  split at o
  · rename_i xs hx
    split at o
    · rename_i hl
      obtain ⟨a, ws, rfl, e2, e3, e4⟩ := asT_rep hv hx
      match xs, hl, e4, o with
      | [x, y], hl, e4, o =>
        unfold Reps at e4
        obtain ⟨v1, r1, rfl, hv1, hr1⟩ := e4
        unfold Reps at hr1
        obtain ⟨v2, r2, rfl, hv2, hr2⟩ := hr1
        unfold Reps at hr2
        subst hr2
        refine ⟨a, _, rfl, e2, rfl, v1, _, rfl, v2, _, rfl, rfl, ?_⟩
        refine o.now S.sto _ ((S.env.set hv1).set hv2) ?_
        rw [wipe_set hj, wipe_set hi, hw]
    · exact o.elim
  · exact o.elim⟩
def lcM (g : TgF) (tt : En → M Bool) (el : EF) (δ : En) : List D → M (List D)
  | [] => M.pure []
  | x :: xs => (g x δ).bind fun δ1 => (tt δ1).bind fun b => if b = true then (el δ1).bind fun y => (lcM g tt el δ xs).bind fun r => M.pure (y :: r) else lcM g tt el δ xs
section
variable {X : Cx} {E : XK} {pos : Pos}
def eLcM (it : ItF) (g : TgF) (vs : List Nat) (tt : En → M Bool) (el : EF) : En → M (List D) := fun δ => (it δ).bind fun xs st => if xs.length ≤ sizeLine then noer (lcM g tt el (wipeD δ vs) xs) st else none
def eLc (it : ItF) (g : TgF) (vs : List Nat) (tt : En → M Bool) (el : EF) : EF := fun δ => (eLcM it g vs tt el δ).bind fun r => M.pure (.lst r)
def eLcN (it : ItF) (g : TgF) (vs : List Nat) (tt : En → M Bool) (el : EF) : EF := fun δ => (eLcM it g vs tt el δ).bind fun r st => some (.ok (.obj st.length) (st ++ [.lst r]))
/-- the reading of a comprehension: k what is done with the new list -/
theorem tD_lc {K : PySem.W.Frag} {it : ItF} {g : TgF} {vs : List Nat} {t : TG} {tt : En → M Bool} {el : EF} {fin : List D → M D} {σ : L2.St} {H : Hp} {Q : VK} (hg : CG K vs t g)
    (hfin : ∀ {μ ν H st r ws D} {k : VK}, StoOk K μ ν H st → H D = none → r.length ≤ sizeLine → Reps K μ (hid μ ν H) r ws → Out K ν E μ H (fin r st) (fun d st' μ' H' => ∀ v, Rep K μ' (hid μ' ν H') d v → k v H') → k (.ref D) (upd H D (.lst ws)))
    (h : tD K E (fun δ => (eLcM it g vs tt el δ).bind fin) σ H Q) : tLc (tDI K E it) t (tDb K E0 tt) (tD K E0 el) vs σ H Q := by
  obtain ⟨μ, ν, δ, st, S, o⟩ := h
  have o' : Out K ν E μ H ((it δ).bind (fun xs => M.bind (fun st => if xs.length ≤ sizeLine then noer (lcM g tt el (wipeD δ vs) xs) st else none) fin) st) (fun d st' μ' H' => ∀ v, Rep K μ' (hid μ' ν H') d v → Q v H') := by
    have e : ((it δ).bind (fun xs => M.bind (fun st => if xs.length ≤ sizeLine then noer (lcM g tt el (wipeD δ vs) xs) st else none) fin) st) = ((eLcM it g vs tt el δ).bind fin st) := by
      unfold eLcM M.bind
      dsimp only
      cases it δ st with
      | none => rfl
      | some r => cases r <;> rfl
    rw [e]; exact o
  refine ⟨μ, ν, δ, st, S, o'.fst.imp fun xs st1 μ1 H1 e1 s1 o1 J G Dd hD => ?_⟩
  have S1 := S.ext e1 s1
  have ndν : Dd ∉ ν := (s1.fresh hD).2
  have o2 := o1.fst
  split at o2
  case isFalse => exact o2.elim
  rename_i hxl
  have o2 := o2.noer
  -- the invariant: H without Dd
  refine ⟨fun i m H' => ∃ μ' st' acc ws, StoOk K μ' ν (rem Dd H') st' ∧ Ext ν μ1 H1 μ' (rem Dd H') ∧ H' Dd = some (.lst ws) ∧ Reps K μ' (hid μ' ν (rem Dd H')) acc ws ∧ m = xs.length - i ∧ i ≤ xs.length ∧ acc.length ≤ i ∧
      Out K ν E0 μ' (rem Dd H') (lcM g tt el (wipeD δ vs) (xs.drop i) st') fun r st2 μ2 H2 => Out K ν E μ2 H2 (fin (acc ++ r) st2) fun d st' μ' H' => ∀ v, Rep K μ' (hid μ' ν H') d v → Q v H',
    ⟨_, μ1, st1, [], [], by rw [rem_upd hD]; exact s1, by rw [rem_upd hD]; exact .refl, upd_same, .nil, rfl, Nat.zero_le _, Nat.zero_le _, by rw [rem_upd hD]; exact o2⟩, fun i m H2 hW => ?_⟩
  obtain ⟨μ2, st2, acc, ws, s2, e2, hd, hacc, rfl, hi, hal, o3⟩ := hW
  have U2 := sto_unrem s2 hd ndν
  have E2 : MuExt μ1 μ2 := e2.mu
  have X2 : Same (hid μ1 ν H1) (hid μ2 (Dd :: ν) H2) := by rw [hid_rem]; exact e2.same
  have sn : Seen ν μ1 H1 (Dd :: ν) μ2 H2 := ⟨E2, X2⟩
  by_cases hlt : i < xs.length
  · refine .inr ⟨G.go i _ μ2 H2 sn hlt, _, fun H' q => ⟨xs.length - (i + 1), by omega, q⟩, fun x H4 hy => ?_⟩
    obtain ⟨d, hd1, e4, s4, hx⟩ := G.yld i _ μ2 H2 st2 x H4 sn U2 hlt hy
    rw [List.drop_eq_getElem_cons hlt] at o3
    obtain rfl : xs[i] = d := by rw [List.getElem?_eq_getElem hlt] at hd1; exact Option.some.inj hd1
    have o4 := (Out.ext o3 (ext_rem e4)).fst
    have S4 : Sit K μ2 (Dd :: ν) (wipeD δ vs) st2 (L2.wipe σ vs) H4 := ⟨s4, by
      have := (S1.env.mono E2 X2).ext e4
      exact SimE.wipe this vs⟩
    have hd4 : H4 Dd = some (.lst ws) := by rw [e4.out Dd (List.mem_cons_self)]; exact hd
    have hacc4 : Reps K μ2 (hid μ2 (Dd :: ν) H4) acc ws := by
      have q := hacc
      rw [← hid_rem] at q
      exact q.ext e4
    refine hg.run S4 hx wipe_wipe ((o4.beside (a := Dd) ndν).imp fun δ5 st5 μ5 H5 e5 s5 o5 σ5 hσ5 hw5 => ⟨hw5, ?_⟩)
    refine ⟨μ5, Dd :: ν, δ5, st5, ⟨s5, hσ5⟩, (o5.1.fst.beside (a := Dd) ndν).imp fun b st6 μ6 H6 e6 s6 o6 => ?_⟩
    have e2' : Ext ν μ1 H1 μ6 (rem Dd H6) := ((e2.trans (ext_rem e4)).trans (ext_rem e5)).trans (ext_rem e6)
    have hd6 : H6 Dd = some (.lst ws) := by rw [e6.out Dd (List.mem_cons_self), e5.out Dd (List.mem_cons_self)]; exact hd4
    have hacc6 := (hacc4.ext e5).ext e6
    have o6 := o6.1
    cases b with
    | false =>
      rw [if_neg (by decide)] at o6
      refine (if_neg (by decide)).mpr ?_
      exact ⟨μ6, st6, acc, ws, sto_rem s6 ndν, e2', hd6, by rw [← hid_rem]; exact hacc6, rfl, hlt, Nat.le_succ_of_le hal, o6⟩
    | true =>
      rw [if_pos rfl] at o6
      refine (if_pos rfl).mpr ?_
      refine ⟨μ6, Dd :: ν, δ5, st6, ⟨s6, hσ5.ext e6⟩, (o6.fst.beside (a := Dd) ndν).imp fun y st7 μ7 H7 e7 s7 o7 v hv => ?_⟩
      have hd7 : H7 Dd = some (.lst ws) := by rw [e7.out Dd (List.mem_cons_self)]; exact hd6
      have hacc7 := hacc6.ext e7
      have o7 := o7.1.fst
      refine ⟨ws, hd7, by rw [← hacc7.len]; omega, μ7, st7, acc ++ [y], ws ++ [v], ?_, ?_, upd_same, ?_, rfl, hlt, by rw [List.length_append, List.length_singleton]; omega, ?_⟩
      · rw [rem_upd']; exact sto_rem s7 ndν
      · rw [rem_upd']; exact e2'.trans (ext_rem e7)
      · rw [rem_upd', ← hid_rem]; exact hacc7.append (.one hv)
      · rw [rem_upd']
        refine o7.imp fun r st8 μ8 H8 e8 s8 o8 => ?_
        have q := o8.ret s8
        rw [List.append_assoc]
        exact q
  · have hz : i = xs.length := by omega
    subst hz
    rw [List.drop_length] at o3
    refine .inl ⟨G.stop _ μ2 H2 sn, ?_⟩
    have o4 := o3.ret s2
    rw [List.append_nil] at o4
    have hrem : rem Dd H2 Dd = none := rem_same
    have q := hfin s2 hrem (by omega) hacc o4
    rw [upd_rem hd] at q
    exact q
theorem Out.go {K : PySem.W.Frag} {μ μ' : Mu} {ν : List Addr} {H H' : Hp} {E : XK} {α : Type} {o : Option (R α)} {a : α} {st : Sto} {k : α → Sto → Mu → Hp → Prop} (h : Out K ν E μ H o k) (e : o = some (.ok a st)) (x : Ext ν μ H μ' H') (s : StoOk K μ' ν H' st) : k a st μ' H' := by
  subst e
  exact h μ' H' x s
theorem tD_eLc {K : PySem.W.Frag} {it : ItF} {g : TgF} {vs : List Nat} {t : TG} {tt : En → M Bool} {el : EF} {σ : L2.St} {H : Hp} {Q : VK} (hg : CG K vs t g) (h : tD K E (eLc it g vs tt el) σ H Q) : tLc (tDI K E it) t (tDb K E0 tt) (tD K E0 el) vs σ H Q :=
  tD_lc hg (fun s hD hl hr o => (o.go rfl (s.ext_new hD) (s.new hD)) _ (rep_lst s hD hl hr)) h
theorem tD_eLcN {K : PySem.W.Frag} {it : ItF} {g : TgF} {vs : List Nat} {t : TG} {tt : En → M Bool} {el : EF} {σ : L2.St} {H : Hp} {Q : VK} (hg : CG K vs t g) (h : tD K E (eLcN it g vs tt el) σ H Q) : tLc (tDI K E it) t (tDb K E0 tt) (tD K E0 el) vs σ H Q :=
  tD_lc hg (fun s hD hl hr o => let ⟨a, b, c⟩ := sto_lst s hD hl hr; (o.go rfl b a) _ c) h
def eYes : En → M Bool := fun _ => M.pure true
abbrev DTs (X : Cx) (ifs : List Expr) (f : En → M Bool) : Prop := PTs X ifs (tDb X.K E0 f)
theorem pts_imp {e : List Expr} {t t' : TT} (h : PTs X e t) (i : ∀ σ H Q, t' σ H Q → t σ H Q) : PTs X e t' := ⟨fun pins s σ H Q I q => h.run pins s σ H Q I (i _ _ _ q)⟩
theorem dts_nil : DTs X [] eYes := pts_imp pts_nil fun σ H Q ⟨μ, ν, δ, st, S, o⟩ => o.ret S.sto
theorem dts_one {c : Expr} {f : En → M Bool} (h : DT X E0 c f) : DTs X [c] f := pts_one h
section
variable {elt tg iter : Expr} {ifs : List Expr} {scope : Scope} {own : List (Str × Nat)} {it : ItF} {g : TgF} {t : TG} {tt : En → M Bool} {el : EF}
theorem de_lc (hc : X.calm = true) (hN : X.N.Nodup) (hi : DI X E tg iter it) (ok : BlkOk X.N X.env.scope scope own) (hcg : CG X.K (own.map (·.2)) t g)
    (hg : ∀ (s : Shared) (H : Hp) (C : Addr) (cl : List (Str × Addr)) (fp : List Addr), PG (X.blk s H scope (compEnvC scope cl C X.env) fp) tg t) (ht : ∀ (s : Shared) (H : Hp) (C : Addr) (cl : List (Str × Addr)) (fp : List Addr), DTs (X.blk s H scope (compEnvC scope cl C X.env) fp) ifs tt)
    (he : ∀ (s : Shared) (H : Hp) (C : Addr) (cl : List (Str × Addr)) (fp : List Addr), DE (X.blk s H scope (compEnvC scope cl C X.env) fp) E0 elt el) (hs : ∀ x, foldedSetIterable iter X.env x = pure x := by intro _; rfl) :
    DE X E (.ListComp elt [⟨tg, iter, ifs, 0⟩] scope pos) (eLc it g (own.map (·.2)) tt el) := pe_imp (pe_lc hc hN hi ok hg ht he hs) fun σ H Q h => tD_eLc hcg h
theorem de_lcN (hc : X.calm = true) (hN : X.N.Nodup) (hi : DI X E tg iter it) (ok : BlkOk X.N X.env.scope scope own) (hcg : CG X.K (own.map (·.2)) t g)
    (hg : ∀ (s : Shared) (H : Hp) (C : Addr) (cl : List (Str × Addr)) (fp : List Addr), PG (X.blk s H scope (compEnvC scope cl C X.env) fp) tg t) (ht : ∀ (s : Shared) (H : Hp) (C : Addr) (cl : List (Str × Addr)) (fp : List Addr), DTs (X.blk s H scope (compEnvC scope cl C X.env) fp) ifs tt)
    (he : ∀ (s : Shared) (H : Hp) (C : Addr) (cl : List (Str × Addr)) (fp : List Addr), DE (X.blk s H scope (compEnvC scope cl C X.env) fp) E0 elt el) (hs : ∀ x, foldedSetIterable iter X.env x = pure x := by intro _; rfl) :
    DE X E (.ListComp elt [⟨tg, iter, ifs, 0⟩] scope pos) (eLcN it g (own.map (·.2)) tt el) := pe_imp (pe_lc hc hN hi ok hg ht he hs) fun σ H Q h => tD_eLcN hcg h
/-- y = [..] -/
theorem tAsg_lc {K : PySem.W.Frag} {f : EF} {te : TE} {i : Nat} {T : Ends} {σ : L2.St} {H : Hp} (hte : ∀ σ H Q, tD K E f σ H Q → te σ H Q) (h : tDS K E (sAsg f (gN i)) T σ H) : tAsg te (gName i) T σ H := by
  obtain ⟨μ, ν, δ, st, S, o⟩ := h
  refine hte _ _ _ ⟨μ, ν, δ, st, S, o.fst.imp fun d st1 μ1 H1 e1 s1 o1 v hv => ?_⟩
  exact (o1.fst.ret s1).ret s1 _ ((S.env.ext e1).set hv)
theorem ds_setLc {i : Nat} {s : Stmt} {te : TE} {f : EF} (h : PS X s (tAsg te (gName i))) (hte : ∀ σ H Q, tD X.K E f σ H Q → te σ H Q) : DSt X E s (sAsg f (gN i)) := ps_imp h fun T σ H q => tAsg_lc hte q
end
end
end DL
end
section
namespace DL
open PySem PySem.Spec PyProof.Rows L2

/-! ### leaving a def: what it made in the store becomes plain data -/
mutual
/-- no place of the store at n or above -/
def belowD (n : Nat) : D → Bool
  | .non => true
  | .bl _ => true
  | .int _ => true
  | .str _ => true
  | .lst xs => belowDs n xs
  | .fl xs => belowDs n xs
  | .tup xs => belowDs n xs
  | .ins _ fs => belowFs n fs
  | .exc _ _ => false
  | .dct kvs => belowKs n kvs
  | .obj i => decide (i < n)
  | .fn _ => true
def belowDs (n : Nat) : List D → Bool
  | [] => true
  | x :: xs => belowD n x && belowDs n xs
def belowFs (n : Nat) : List (Str × D) → Bool
  | [] => true
  | p :: xs => belowD n p.2 && belowFs n xs
def belowKs (n : Nat) : List (Key × D) → Bool
  | [] => true
  | p :: xs => belowD n p.2 && belowKs n xs
end
def frzFs (f : D → Option D) : List (Str × D) → Option (List (Str × D))
  | [] => some []
  | p :: xs => match f p.2 with
    | some y => match frzFs f xs with
      | some ys => some ((p.1, y) :: ys)
      | none => none
    | none => none
def frz (n : Nat) (st : Sto) : Nat → D → Option D
  | 0, d => if belowD n d = true then some d else none
  | k + 1, d => if belowD n d = true then some d else match d with
    | .lst xs => match allM (frz n st k) xs with | some ys => some (.lst ys) | none => none
    | .tup xs => match allM (frz n st k) xs with | some ys => some (.tup ys) | none => none
    | .obj i => match st[i]? with
      | some (.lst xs) => match allM (frz n st k) xs with | some ys => some (.lst ys) | none => none
      | some (.ins C fs) => match frzFs (frz n st k) fs with | some ys => some (.ins C ys) | none => none
      | _ => none
    | _ => none
theorem frz_below {n k : Nat} {st : Sto} {d : D} (h : belowD n d = true) : frz n st k d = some d := by
  cases k <;> (unfold frz; rw [if_pos h])
def belowC (n : Nat) : Cell → Bool
  | .dead => true
  | .lst xs => belowDs n xs
  | .ins _ fs => belowFs n fs
/-- the outer places are as they were, or hold what has no inner place -/
def TrOk (n : Nat) (st st1 : Sto) : Prop := n ≤ st1.length ∧ ∀ (i : Nat) (c : Cell), i < n → st1[i]? = some c → st[i]? = some c ∨ belowC n c = true
section
variable {K : PySem.W.Frag} {μ μ' : Mu} {ν : List Addr} {H H' : Hp} {st st' : Sto} {E : XK} {n : Nat}
mutual
theorem below_rep {G : Hp} (hn : n ≤ μ.length) : ∀ (d : D) (v : V), belowD n d = true → Rep K μ G d v → Rep K (μ.take n) G d v
  | .non, v, _, h => h
  | .bl _, v, _, h => h
  | .int _, v, _, h => h
  | .str _, v, _, h => h
  | .lst xs, v, b, h => by
    unfold Rep at h ⊢
    unfold belowD at b
    obtain ⟨a, vs, e1, e2, e3, e4⟩ := h
    exact ⟨a, vs, e1, e2, e3, below_reps hn xs vs b e4⟩
  | .fl xs, v, b, h => by
    unfold Rep at h ⊢
    unfold belowD at b
    obtain ⟨a, vs, e1, e2, e3, e4⟩ := h
    exact ⟨a, vs, e1, e2, e3, below_reps hn xs vs b e4⟩
  | .tup xs, v, b, h => by
    unfold Rep at h ⊢
    unfold belowD at b
    obtain ⟨a, vs, e1, e2, e3, e4⟩ := h
    exact ⟨a, vs, e1, e2, e3, below_reps hn xs vs b e4⟩
  | .ins C fs, v, b, h => by
    unfold Rep at h ⊢
    unfold belowD at b
    obtain ⟨a, dx, gs, e1, e2, e3⟩ := h
    exact ⟨a, dx, gs, e1, e2, below_freps hn fs gs b e3⟩
  | .exc _ _, v, b, h => h
  | .fn _, v, b, h => h
  | .dct kvs, v, b, h => by
    unfold Rep at h ⊢
    unfold belowD at b
    obtain ⟨a, ws, e1, e2, e3⟩ := h
    exact ⟨a, ws, e1, e2, below_kreps hn kvs ws b e3⟩
  | .obj i, v, b, h => by
    unfold Rep at h ⊢
    unfold belowD at b
    have hi := of_decide_eq_true b
    refine ⟨by rw [List.length_take]; omega, fun a e => h.2 a ?_⟩
    rw [List.getElem?_take_of_lt hi] at e
    exact e
theorem below_reps {G : Hp} (hn : n ≤ μ.length) : ∀ (ds : List D) (vs : List V), belowDs n ds = true → Reps K μ G ds vs → Reps K (μ.take n) G ds vs
  | [], vs, _, h => h
  | d :: ds, vs, b, h => by
    unfold Reps at h ⊢
    unfold belowDs at b
    rw [Bool.and_eq_true] at b
    obtain ⟨v, r, e1, e2, e3⟩ := h
    exact ⟨v, r, e1, below_rep hn d v b.1 e2, below_reps hn ds r b.2 e3⟩
theorem below_freps {G : Hp} (hn : n ≤ μ.length) : ∀ (ds : List (Str × D)) (vs : List (Str × V)), belowFs n ds = true → FReps K μ G ds vs → FReps K (μ.take n) G ds vs
  | [], vs, _, h => h
  | p :: ds, vs, b, h => by
    unfold FReps at h ⊢
    unfold belowFs at b
    rw [Bool.and_eq_true] at b
    obtain ⟨v, r, e1, e2, e3⟩ := h
    exact ⟨v, r, e1, below_rep hn p.2 v b.1 e2, below_freps hn ds r b.2 e3⟩
theorem below_kreps {G : Hp} (hn : n ≤ μ.length) : ∀ (ds : List (Key × D)) (vs : List (Key × V)), belowKs n ds = true → KReps K μ G ds vs → KReps K (μ.take n) G ds vs
  | [], vs, _, h => h
  | p :: ds, vs, b, h => by
    unfold KReps at h ⊢
    unfold belowKs at b
    rw [Bool.and_eq_true] at b
    obtain ⟨v, r, e1, e2, e3⟩ := h
    exact ⟨v, r, e1, below_rep hn p.2 v b.1 e2, below_kreps hn ds r b.2 e3⟩
end
mutual
theorem rep_below {G : Hp} : ∀ (d : D) (v : V), Rep K μ G d v → belowD μ.length d = true
  | .non, v, _ => by unfold belowD; rfl
  | .bl _, v, _ => by unfold belowD; rfl
  | .int _, v, _ => by unfold belowD; rfl
  | .str _, v, _ => by unfold belowD; rfl
  | .lst xs, v, h => by
    unfold Rep at h
    unfold belowD
    obtain ⟨a, vs, e1, e2, e3, e4⟩ := h
    exact reps_below xs vs e4
  | .fl xs, v, h => by
    unfold Rep at h
    unfold belowD
    obtain ⟨a, vs, e1, e2, e3, e4⟩ := h
    exact reps_below xs vs e4
  | .tup xs, v, h => by
    unfold Rep at h
    unfold belowD
    obtain ⟨a, vs, e1, e2, e3, e4⟩ := h
    exact reps_below xs vs e4
  | .ins C fs, v, h => by
    unfold Rep at h
    unfold belowD
    obtain ⟨a, dx, gs, e1, e2, e3⟩ := h
    exact freps_below fs gs e3
  | .exc _ _, v, h => by unfold Rep at h; exact h.elim
  | .fn _, v, h => by unfold belowD; rfl
  | .dct kvs, v, h => by
    unfold Rep at h
    unfold belowD
    obtain ⟨a, ws, e1, e2, e3⟩ := h
    exact kreps_below kvs ws e3
  | .obj i, v, h => by
    unfold Rep at h
    unfold belowD
    exact decide_eq_true h.1
theorem reps_below {G : Hp} : ∀ (ds : List D) (vs : List V), Reps K μ G ds vs → belowDs μ.length ds = true
  | [], vs, _ => by unfold belowDs; rfl
  | d :: ds, vs, h => by
    unfold Reps at h
    unfold belowDs
    obtain ⟨v, r, e1, e2, e3⟩ := h
    rw [rep_below d v e2, reps_below ds r e3]; rfl
theorem freps_below {G : Hp} : ∀ (ds : List (Str × D)) (vs : List (Str × V)), FReps K μ G ds vs → belowFs μ.length ds = true
  | [], vs, _ => by unfold belowFs; rfl
  | p :: ds, vs, h => by
    unfold FReps at h
    unfold belowFs
    obtain ⟨v, r, e1, e2, e3⟩ := h
    rw [rep_below p.2 v e2, freps_below ds r e3]; rfl
theorem kreps_below {G : Hp} : ∀ (ds : List (Key × D)) (vs : List (Key × V)), KReps K μ G ds vs → belowKs μ.length ds = true
  | [], vs, _ => by unfold belowKs; rfl
  | p :: ds, vs, h => by
    unfold KReps at h
    unfold belowKs
    obtain ⟨v, r, e1, e2, e3⟩ := h
    rw [rep_below p.2 v e2, kreps_below ds r e3]; rfl
end
/-- places are let go: more is seen -/
theorem hid_take : Same (hid μ ν H) (hid (μ.take n) ν H) := fun a o h => by
  obtain ⟨h1, h2, h3⟩ := hid_some h
  rw [hid_of (fun z => h2 (List.mem_of_mem_take z)) h3]
  exact h1
theorem mu_take (hn : n ≤ μ.length) (m : MuExt μ' μ) (hl : μ'.length = n) : MuExt μ' (μ.take n) :=
  ⟨by rw [List.length_take, hl]; omega, fun i a hi e => m.at_ i a hi (by rw [List.getElem?_take_of_lt (by omega)] at e; exact e)⟩
theorem take_same {G G' : Hp} (e : Same G G') {d : D} {v : V} (h : Rep K μ G d v) : Rep K μ G' d v := Rep.mono .refl e d v h
theorem frz_all {k : Nat} (ih : ∀ (d d' : D) (v : V), frz n st k d = some d' → Rep K μ (hid μ ν H) d v → Rep K (μ.take n) (hid (μ.take n) ν H) d' v) : ∀ (xs ys : List D) (vs : List V), allM (frz n st k) xs = some ys → Reps K μ (hid μ ν H) xs vs →
    ys.length = xs.length ∧ Reps K (μ.take n) (hid (μ.take n) ν H) ys vs
  | [], ys, vs, h, r => by
    cases h
    unfold Reps at r
    subst r
    exact ⟨rfl, .nil⟩
  | x :: xs, ys, vs, h, r => by
    obtain ⟨y, ys', rfl, h1, h2⟩ := allM_cons h
    unfold Reps at r
    obtain ⟨v, r', rfl, r1, r2⟩ := r
    obtain ⟨l, q⟩ := frz_all ih xs ys' r' h2 r2
    exact ⟨by rw [List.length_cons, List.length_cons, l], .cons (ih x y v h1 r1) q⟩
theorem frz_fs {k : Nat} (ih : ∀ (d d' : D) (v : V), frz n st k d = some d' → Rep K μ (hid μ ν H) d v → Rep K (μ.take n) (hid (μ.take n) ν H) d' v) : ∀ (xs ys : List (Str × D)) (vs : List (Str × V)), frzFs (frz n st k) xs = some ys → FReps K μ (hid μ ν H) xs vs →
    FReps K (μ.take n) (hid (μ.take n) ν H) ys vs
  | [], ys, vs, h, r => by
    cases h
    unfold FReps at r ⊢
    exact r
  | x :: xs, ys, vs, h, r => by
    unfold frzFs at h
    split at h
    · rename_i y hy
      split at h
      · rename_i ys' hys
        cases h
        unfold FReps at r ⊢
        obtain ⟨v, r', rfl, r1, r2⟩ := r
        exact ⟨v, r', rfl, ih _ _ v hy r1, frz_fs ih xs ys' r' hys r2⟩
      · cases h
    · cases h
theorem frz_rep (S : StoOk K μ ν H st) (hn : n ≤ μ.length) : ∀ (k : Nat) (d d' : D) (v : V), frz n st k d = some d' → Rep K μ (hid μ ν H) d v → Rep K (μ.take n) (hid (μ.take n) ν H) d' v := by
  have base : ∀ (d : D) (v : V), belowD n d = true → Rep K μ (hid μ ν H) d v → Rep K (μ.take n) (hid (μ.take n) ν H) d v := fun d v b r => take_same hid_take (below_rep hn d v b r)
  have notin : ∀ i a, n ≤ i → μ[i]? = some (some a) → some a ∉ μ.take n ∧ a ∉ ν := fun i a hi e => by
    refine ⟨fun z => ?_, fun z => (S.out a z).2 (mem_of_get e)⟩
    obtain ⟨j, hj⟩ := List.mem_iff_getElem?.mp z
    have hjn : j < n := by
      have := (List.getElem?_eq_some_iff.mp hj).1
      rw [List.length_take] at this; omega
    rw [List.getElem?_take_of_lt hjn] at hj
    have := S.inj i j a e hj
    omega
  intro k
  induction k with
  | zero =>
    intro d d' v h r
    unfold frz at h
    split at h
    · cases h; exact base d v (by assumption) r
    · cases h
  | succ k ih =>
    intro d d' v h r
    unfold frz at h
    split at h
    · cases h; exact base d v (by assumption) r
    · rename_i nb
      split at h
      · split at h
        · rename_i ys hys
          cases h
          unfold Rep at r ⊢
          obtain ⟨a, vs, e1, e2, e3, e4⟩ := r
          obtain ⟨l, q⟩ := frz_all ih _ ys vs hys e4
          exact ⟨a, vs, e1, hid_take _ _ e2, by rw [l]; exact e3, q⟩
        · cases h
      · split at h
        · rename_i ys hys
          cases h
          unfold Rep at r ⊢
          obtain ⟨a, vs, e1, e2, e3, e4⟩ := r
          obtain ⟨l, q⟩ := frz_all ih _ ys vs hys e4
          exact ⟨a, vs, e1, sqT_same hid_take e2, by rw [l]; exact e3, q⟩
        · cases h
      · rename_i i
        have hin : n ≤ i := by
          unfold belowD at nb
          simpa using nb
        split at h
        · rename_i xs hc
          split at h
          · rename_i ys hys
            cases h
            obtain ⟨⟨a, vs, h1, h2, h3, h4⟩, hv⟩ := S.obj r hc
            obtain ⟨l, q⟩ := frz_all ih _ ys vs hys h4
            unfold Rep
            obtain ⟨m1, m2⟩ := notin i a hin h1
            exact ⟨a, vs, hv a h1, by rw [hid_of m1 m2]; exact h2, by rw [l]; exact h3, q⟩
          · cases h
        · rename_i C fs hc
          split at h
          · rename_i ys hys
            cases h
            obtain ⟨⟨a, dx, gs, h1, h2, h3⟩, hv⟩ := S.obj r hc
            unfold Rep
            obtain ⟨m1, m2⟩ := notin i a hin h1
            exact ⟨a, dx, gs, hv a h1, by rw [hid_of m1 m2]; exact h2, frz_fs ih _ ys gs hys h3⟩
          · cases h
        · cases h
      · cases h
theorem ext_take (e : Ext ν μ H μ' H') (hl : μ.length = n) : Ext ν μ H (μ'.take n) H' := by
  have hn : n ≤ μ'.length := by have := e.mu.len; omega
  exact ⟨mu_take hn e.mu hl, e.same.trans hid_take, e.out⟩
theorem sto_take (S0 : StoOk K μ ν H st) (e : Ext ν μ H μ' H') (S : StoOk K μ' ν H' st') (hl : st.length = n) (t : TrOk n st st') : StoOk K (μ'.take n) ν H' (st'.take n) := by
  have hn : n ≤ μ'.length := by rw [S.len]; exact t.1
  have hl' : μ.length = n := by rw [S0.len]; exact hl
  refine ⟨by rw [List.length_take, List.length_take, S.len], fun i j a h1 h2 => ?_, fun a ha => S.live a (List.mem_of_mem_take ha), fun a ha => ⟨(S.out a ha).1, fun z => (S.out a ha).2 (List.mem_of_mem_take z)⟩, fun i c hc => ?_⟩
  · refine S.inj i j a ?_ ?_
    · have := (List.getElem?_eq_some_iff.mp h1).1
      rw [List.length_take] at this
      rw [List.getElem?_take_of_lt (by omega)] at h1; exact h1
    · have := (List.getElem?_eq_some_iff.mp h2).1
      rw [List.length_take] at this
      rw [List.getElem?_take_of_lt (by omega)] at h2; exact h2
  · have hi : i < n := by
      have := (List.getElem?_eq_some_iff.mp hc).1
      rw [List.length_take] at this; omega
    rw [List.getElem?_take_of_lt hi] at hc
    have x := S.cell i c hc
    have b : belowC n c = true := by
      rcases t.2 i c hi hc with h | h
      · have y := S0.cell i c h
        cases c with
        | dead => rfl
        | lst xs =>
          obtain ⟨b, ws, g1, g2, g3, g4⟩ := y
          have q := reps_below xs ws g4
          rw [hl'] at q; exact q
        | ins C fs =>
          obtain ⟨b, dx, ws, g1, g2, g3⟩ := y
          have q := freps_below fs ws g3
          rw [hl'] at q; exact q
      · exact h
    have h := b
    · cases c with
      | dead => trivial
      | lst xs =>
        obtain ⟨a, vs, h1, h2, h3, h4⟩ := x
        exact ⟨a, vs, by rw [List.getElem?_take_of_lt hi]; exact h1, h2, h3, Reps.mono .refl hid_take _ _ (below_reps hn _ _ h h4)⟩
      | ins C fs =>
        obtain ⟨a, dx, gs, h1, h2, h3⟩ := x
        exact ⟨a, dx, gs, by rw [List.getElem?_take_of_lt hi]; exact h1, h2, FReps.mono .refl hid_take _ _ (below_freps hn _ _ h h3)⟩
end

/-! ### a def's body as a function -/
/-- what leaves: the value as plain data, the outer store -/
noncomputable def leave (n : Nat) (st st1 : Sto) (d : D) : Option (R D) := open Classical in
  if TrOk n st st1 then match frz n st1 4 d with
    | some d' => some (.ok d' (st1.take n))
    | none => none
  else none
def frzX (n : Nat) (st1 : Sto) : Option (List (Str × D)) → Option (Option (List (Str × D)))
  | none => some none
  | some fs => match frzFs (frz n st1 4) fs with
    | some fs' => some (some fs')
    | none => none
noncomputable def leaveX (n : Nat) (st st1 : Sto) (C : Addr) (fs : Option (List (Str × D))) : Option (R D) := open Classical in
  if TrOk n st st1 then match frzX n st1 fs with
    | some fs' => some (.er C fs' (st1.take n))
    | none => none
  else none
/-- p: how many parameters, m: how many names the def has; f: its body -/
noncomputable def callM (p m : Nat) (f : SF) (ds : List D) : M D := fun st => if ds.length = p then (match f (startD m ds) st with
  | some (.ok (.rt d) st1) => leave st.length st st1 d
  | some (.ok (.nx _) st1) => leave st.length st st1 .non
  | some (.er C fs st1) => leaveX st.length st st1 C fs
  | _ => none) else none
section
variable {K : PySem.W.Frag} {μ μ' : Mu} {ν : List Addr} {H H' : Hp} {st st1 : Sto} {E : XK} {d : D}
theorem leave_rep {k : VK} {v : V} (S : StoOk K μ ν H st) (e : Ext ν μ H μ' H') (s1 : StoOk K μ' ν H' st1) (hv : Rep K μ' (hid μ' ν H') d v)
    (o : Out K ν E μ H (leave st.length st st1 d) fun d st' μ' H' => ∀ v, Rep K μ' (hid μ' ν H') d v → k v H') : k v H' := by
  unfold leave at o
  split at o
  · rename_i t
    split at o
    · rename_i d' hd
      have hn : st.length ≤ μ'.length := by rw [s1.len]; exact t.1
      exact o _ _ (ext_take e S.len) (sto_take S e s1 rfl t) v (frz_rep s1 hn 4 d d' v hd hv)
    · exact o.elim
  · exact o.elim
theorem leaveX_rep {C : Addr} {fs : Option (List (Str × D))} {dd : Option Addr} {k : D → Sto → Mu → Hp → Prop} (S : StoOk K μ ν H st) (e : Ext ν μ H μ' H') (s1 : StoOk K μ' ν H' st1) (hv : XOk K μ' (hid μ' ν H') fs dd)
    (o : Out K ν E μ H (leaveX st.length st st1 C fs) k) : E (.ref C) dd H' := by
  unfold leaveX at o
  split at o
  · rename_i t
    split at o
    · rename_i fs' hd
      have hn : st.length ≤ μ'.length := by rw [s1.len]; exact t.1
      refine o _ _ dd (ext_take e S.len) (sto_take S e s1 rfl t) ?_
      cases fs with
      | none => cases hd; exact hv
      | some fs =>
        unfold frzX at hd
        dsimp only at hd
        cases h2 : frzFs (frz st.length st1 4) fs with
        | none => rw [h2] at hd; cases hd
        | some fs2 =>
          rw [h2] at hd
          cases hd
          obtain ⟨a, gs, e1, e2, e3⟩ := hv
          exact ⟨a, gs, e1, hid_take _ _ e2, frz_fs (frz_rep s1 hn 4) fs fs2 gs h2 e3⟩
    · exact o.elim
  · exact o.elim
end
/-- a def of the text, by its body's function -/
theorem def_ok {P : Program} {w : World} {K : PySem.W.Frag} {mg : Str → Option Value} {base : Heap} {x qual : Str} {s : Stmt} {f : Addr} {fd : FuncData} {N ps : List Str} {k : Nat} {b : SF} (F : Fun K x qual s f fd) (S : FnScope N ps (defScope s))
    (hbody : ∀ (cdv : Value) (A : Around) (outer : List Env) (s0 : Shared) (H : Hp) (E : XK), Room k (A.deeper (envOfC qual (defScope s) s0.heap.objs.size f cdv)) →
      DSs (cxOf (L2.CX P w) P w K mg base N qual (defScope s) f cdv A outer s0 H E) E (defBody s) b) : FnOk P w K mg base (L2.CX P w) (k + 1) f fd ps (spD K (callM ps.length N.length b)) := by
  refine F.okX S (fun vs H Q E h => ?_) (fun cdv A outer s0 H vs Q E hr h => ⟨_, hbody cdv A outer s0 H E hr, ?_⟩)
  · obtain ⟨μ, ν, ds, st, S, r, o⟩ := h
    unfold callM at o
    split at o
    · rw [← r.len]; assumption
    · exact o.elim
  · obtain ⟨μ, ν, ds, st, S, r, o⟩ := h
    unfold callM at o
    split at o
    case isFalse => exact o.elim
    refine ⟨μ, ν, startD N.length ds, st, ⟨S, ?_⟩, ?_⟩
    · unfold startD L2.start
      rw [r.len]
      exact simE_start _ r
    · cases e : b (startD N.length ds) st with
      | none => rw [e] at o; exact o.elim
      | some res =>
        rw [e] at o
        cases res with
        | er C fs st1 => exact fun μ' H' dd e1 s1 hx => leaveX_rep S e1 s1 hx o
        | ok fl st1 =>
          intro μ' H' e1 s1
          cases fl with
          | rt d => exact fun v hv => leave_rep S e1 s1 hv o
          | nx δ => exact fun σ' _ => leave_rep S e1 s1 to_non o
          | bk δ => exact o.elim
          | ct δ => exact o.elim
end DL
end
section
namespace DL
open PySem PySem.Spec PyProof.Rows L2

section
variable {X : Cx} {E : XK} {pos : Pos}
/-- a statement that is never reached -/
def sNo : SF := fun _ => M.no
theorem ds_no {s : Stmt} : DSt X E s sNo := ps_imp ps_never fun T σ H ⟨μ, ν, δ, st, S, o⟩ => o.elim
theorem dss_no {s : List Stmt} : DSs X E s sNo := pss_imp pss_never fun T σ H ⟨μ, ν, δ, st, S, o⟩ => o.elim

/-! ### calls of defs -/
def eCall (g : List D → M D) (f : En → M (List D)) : EF := fun δ => (f δ).bind g
theorem tD_call {K : PySem.W.Frag} {g : List D → M D} {f : En → M (List D)} {σ : L2.St} {H : Hp} {Q : VK} (h : tD K E (eCall g f) σ H Q) : tCall (spD K g) [] E (tDs K E f) σ H Q := by
  obtain ⟨μ, ν, δ, st, S, o⟩ := h
  refine ⟨μ, ν, δ, st, S, o.fst.imp fun xs st1 μ1 H1 e1 s1 o1 vs hv => ?_⟩
  show spD K g (vs ++ []) H1 Q E
  rw [List.append_nil]
  exact ⟨μ1, ν, xs, st1, s1, hv, o1⟩
section
variable {k : Nat} {f C : Addr} {fd : FuncData} {ps : List Str} {g : List D → M D} {x m : Str} {p apos : Pos} {e o : Expr} {es : List Expr} {fa : En → M (List D)} {fo : EF}
theorem de_call (F : FnOk X.prog X.w X.K X.mg X.base (L2.CX X.prog X.w) k f fd ps (spD X.K g)) (hr : Room k X.A) (hm : X.mg x = some (.ref f)) (hk : PySem.W.keepIn X.K (.ref f) = true) (hb : Binds X.K fd ps []) (hx : Passes (L2.CX X.prog X.w) X E) (ha : DA X E (e :: es) fa) (hg : Gl X x := by rfl)
    (hdb : (x == ("__debug__" : Str)) = false := by decide) (he : starEach (e :: es) X.env = (false, eval e X.env) :: starEach es X.env := by rfl) (hpl : (backTo pos (starEach es X.env)).any (·.1) = false := by rfl) :
    DE X E (.Call (.Name x p) (e :: es) [] pos) (eCall g fa) := pe_imp (pe_call F hr hg hm hk hb .nil hx ha hdb he hpl) fun σ H Q h => tD_call h
theorem de_call0 (F : FnOk X.prog X.w X.K X.mg X.base (L2.CX X.prog X.w) k f fd ps (spD X.K g)) (hr : Room k X.A) (hm : X.mg x = some (.ref f)) (hk : PySem.W.keepIn X.K (.ref f) = true) (hb : Binds X.K fd ps []) (hx : Passes (L2.CX X.prog X.w) X E) (hg : Gl X x := by rfl)
    (hdb : (x == ("__debug__" : Str)) = false := by decide) :
    DE X E (.Call (.Name x p) [] [] pos) (eCall g eNil) := pe_imp (pe_call0 F hr hg hm hk hb .nil hx hdb) fun σ H Q ⟨μ, ν, δ, st, S, o⟩ => by
  exact ⟨μ, ν, [], st, S.sto, .nil, o⟩

/-! ### a def as a value, and its call by a name of the caller's own -/
theorem de_fn {f0 : Addr} (hm : X.mg x = some (.ref f)) (h0 : f0 = f) (hg : Gl X x := by rfl) (hdb : (x == ("__debug__" : Str)) = false := by decide) : DE X E (.Name x p) (eC (.fn f0)) :=
  de_c (v := .ref f) (pe_glob hg hm rfl hdb) fun _ _ => by unfold Rep; rw [h0]
def eCallL (i : Nat) (f0 : Addr) (g : List D → M D) (f : En → M (List D)) : EF := fun δ st => match δ[i]? with
  | some (some (.fn f')) => if f' = f0 then eCall g f δ st else none
  | _ => none
theorem de_callL {i : Nat} {f0 : Addr} (F : FnOk X.prog X.w X.K X.mg X.base (L2.CX X.prog X.w) k f fd ps (spD X.K g)) (hr : Room k X.A) (h0 : f0 = f) (hk : PySem.W.keepIn X.K (.ref f) = true) (hb : Binds X.K fd ps []) (hx : Passes (L2.CX X.prog X.w) X E) (ha : DA X E (e :: es) fa)
    (hN : X.N[i]? = some x := by rfl) (hv : Vis X.env.scope x := by first | exact Or.inl rfl | exact Or.inr (Or.inl rfl) | exact Or.inr (Or.inr rfl))
    (hdb : (x == ("__debug__" : Str)) = false := by decide) (hcd : (x == ("__classdict__" : Str)) = false := by decide) (he : starEach (e :: es) X.env = (false, eval e X.env) :: starEach es X.env := by rfl) (hpl : (backTo pos (starEach es X.env)).any (·.1) = false := by rfl) :
    DE X E (.Call (.Name x p) (e :: es) [] pos) (eCallL i f0 g fa) := pe_imp (pe_callL (i := i) F hr hN hv hk hb .nil hx ha hdb hcd he hpl) fun σ H Q ⟨μ, ν, δ, st, S, o⟩ => by
  unfold eCallL at o
  split at o
  · rename_i f' hf
    split at o
    · rename_i hq
      subst hq
      subst h0
      obtain ⟨v, h1, h2⟩ := S.env.get hf
      unfold Rep at h2
      subst h2
      exact ⟨h1, tD_call ⟨μ, ν, δ, st, S, o⟩⟩
    · exact o.elim
  · exact o.elim
/-! ### instances -/
/-- the class and the attributes of an instance -/
def asI (st : Sto) : D → Option (Addr × List (Str × D))
  | .ins C fs => some (C, fs)
  | .obj i => match st[i]? with
    | some (.ins C fs) => some (C, fs)
    | _ => none
  | _ => none
theorem asI_rep {K : PySem.W.Frag} {μ : Mu} {ν : List Addr} {H : Hp} {st : Sto} (S : StoOk K μ ν H st) {d : D} {v : V} {C : Addr} {fs : List (Str × D)} (h : Rep K μ (hid μ ν H) d v) (e : asI st d = some (C, fs)) :
    ∃ a dx gs, v = .ref a ∧ H a = some (.ins C dx gs) ∧ FReps K μ (hid μ ν H) fs gs := by
  unfold asI at e
  split at e
  · cases e
    unfold Rep at h
    obtain ⟨a, dx, gs, e1, e2, e3⟩ := h
    exact ⟨a, dx, gs, e1, (hid_some e2).1, e3⟩
  · split at e
    · cases e
      rename_i hc
      obtain ⟨⟨a, dx, gs, h1, h2, h3⟩, hv⟩ := S.obj h hc
      exact ⟨a, dx, gs, hv a h1, h2, h3⟩
    · cases e
  · cases e
theorem freps_look {K : PySem.W.Frag} {μ : Mu} {G : Hp} {m : Str} : ∀ {fs : List (Str × D)} {gs : List (Str × V)}, FReps K μ G fs gs → (∀ d, fs.lookup m = some d → ∃ v, gs.lookup m = some v ∧ Rep K μ G d v) ∧ (fs.lookup m = none → gs.lookup m = none)
  | [], gs, h => by
    unfold FReps at h
    subst h
    exact ⟨fun d z => by simp at z, fun _ => rfl⟩
  | p :: fs, gs, h => by
    unfold FReps at h
    obtain ⟨v, r, rfl, h1, h2⟩ := h
    obtain ⟨a, b⟩ := freps_look (m := m) h2
    obtain ⟨n, d0⟩ := p
    by_cases hm : m = n
    · subst hm
      refine ⟨fun d z => ?_, fun z => ?_⟩
      · have : (List.lookup m ((m, d0) :: fs)) = some d0 := by simp [List.lookup]
        rw [this] at z
        cases z
        exact ⟨v, by simp [List.lookup], h1⟩
      · have : (List.lookup m ((m, d0) :: fs)) = some d0 := by simp [List.lookup]
        rw [this] at z; cases z
    · have hb : (m == n) = false := by simpa using hm
      refine ⟨fun d z => ?_, fun z => ?_⟩
      · have q : List.lookup m ((n, d0) :: fs) = fs.lookup m := by simp [List.lookup, hb]
        rw [q] at z
        obtain ⟨u, h3, h4⟩ := a d z
        exact ⟨u, by simpa [List.lookup, hb] using h3, h4⟩
      · have q : List.lookup m ((n, d0) :: fs) = fs.lookup m := by simp [List.lookup, hb]
        rw [q] at z
        have := b z
        simpa [List.lookup, hb] using this
def ofC (C : Addr) (m : Str) (o : D) : M Unit := fun st => match asI st o with
  | some (C', fs) => if C' = C ∧ fs.lookup m = none then some (.ok () st) else none
  | none => none
/-- o.m(..) -/
def eMeth (C : Addr) (m : Str) (g : List D → M D) (fo : EF) (f : En → M (List D)) : EF := fun δ => (fo δ).bind fun o => (ofC C m o).bind fun _ => (f δ).bind fun xs => g (o :: xs)
theorem tD_meth {K : PySem.W.Frag} {σ : L2.St} {H : Hp} {Q : VK} {f : En → M (List D)} (h : tD K E (eMeth C m g fo f) σ H Q) : tMeth C m (spD K g) [] E (tD K E fo) (tDs K E f) σ H Q := by
  obtain ⟨μ, ν, δ, st, S, o⟩ := h
  refine ⟨μ, ν, δ, st, S, o.fst.imp fun d st1 μ1 H1 e1 s1 o1 v hv => ?_⟩
  have o2 := o1.fst
  unfold ofC at o2
  split at o2
  · rename_i C' fs hI
    split at o2
    · rename_i hc
      obtain ⟨rfl, hl⟩ := hc
      obtain ⟨a, dx, gs, rfl, ha, hf⟩ := asI_rep s1 hv hI
      refine ⟨a, dx, gs, rfl, ha, (freps_look hf).2 hl, ?_⟩
      have o3 := o2.now s1
      refine ⟨μ1, ν, δ, st1, S.ext e1 s1, o3.fst.imp fun xs st2 μ2 H2 e2 s2 o4 vs hvs => ?_⟩
      show spD K g (.ref a :: (vs ++ [])) H2 Q E
      rw [List.append_nil]
      exact ⟨μ2, ν, d :: xs, st2, s2, .cons (hv.ext e2) hvs, o4⟩
    · exact o2.elim
  · exact o2.elim
theorem de_meth {pl : Sem Bool} (he : DE X E o fo) (c : Cls X.K C) (hm : Meth X.K C m f) (F : FnOk X.prog X.w X.K X.mg X.base (L2.CX X.prog X.w) k f fd ps (spD X.K g)) (hr : Room k X.A) (hb : Binds X.K fd ps []) (hx : Passes (L2.CX X.prog X.w) X E) (ha : DA X E (e :: es) fa)
    (hst : starEach (e :: es) X.env = (false, eval e X.env) :: starEach es X.env := by rfl) (hpl : (backTo pos (starEach es X.env)).any (·.1) = false := by rfl)
    (ht : eval (.Call (.Attribute o m apos) (e :: es) [] pos) X.env = (do
      let ov ← eval o X.env
      standAt apos.atName
      let (f, first) ← holding [ov] (getMethod ov m pl)
      callWith pos f first (backTo pos (starEach (e :: es) X.env)) (backToKw pos (keywordEach [] X.env))) := by rfl) :
    DE X E (.Call (.Attribute o m apos) (e :: es) [] pos) (eMeth C m g fo fa) := pe_imp (pe_meth he c hm F hr hb .nil hx ha hst hpl ht) fun σ H Q h => tD_meth h
theorem de_meth0 {pl : Sem Bool} (he : DE X E o fo) (c : Cls X.K C) (hm : Meth X.K C m f) (F : FnOk X.prog X.w X.K X.mg X.base (L2.CX X.prog X.w) k f fd ps (spD X.K g)) (hr : Room k X.A) (hb : Binds X.K fd ps []) (hx : Passes (L2.CX X.prog X.w) X E)
    (ht : eval (.Call (.Attribute o m apos) [] [] pos) X.env = (do
      let ov ← eval o X.env
      standAt apos.atName
      let (f, first) ← holding [ov] (getMethod ov m pl)
      callWith pos f first (backTo pos (starEach [] X.env)) (backToKw pos (keywordEach [] X.env))) := by rfl) :
    DE X E (.Call (.Attribute o m apos) [] [] pos) (eMeth C m g fo eNil) := pe_imp (pe_meth0 he c hm F hr hb .nil hx ht) fun σ H Q h => by
  obtain ⟨μ, ν, δ, st, S, o⟩ := h
  refine ⟨μ, ν, δ, st, S, o.fst.imp fun d st1 μ1 H1 e1 s1 o1 v hv => ?_⟩
  have o2 := o1.fst
  unfold ofC at o2
  split at o2
  · rename_i C' fs hI
    split at o2
    · rename_i hc
      obtain ⟨rfl, hl⟩ := hc
      obtain ⟨a, dx, gs, rfl, ha, hf⟩ := asI_rep s1 hv hI
      have o3 := o2.now s1
      exact ⟨a, dx, gs, rfl, ha, (freps_look hf).2 hl, μ1, ν, [d], st1, s1, .one hv, o3⟩
    · exact o2.elim
  · exact o2.elim
/-- C(..), as plain data -/
noncomputable def makeM (C : Addr) (g : List D → M D) (xs : List D) : M D := fun st => match g (.obj st.length :: xs) (st ++ [.ins C []]) with
  | some (.ok .non st1) => leave st.length st st1 (.obj st.length)
  | some (.er C' fs st1) => leaveX st.length st st1 C' fs
  | _ => none
noncomputable def eMake (C : Addr) (g : List D → M D) (f : En → M (List D)) : EF := fun δ => (f δ).bind (makeM C g)
theorem tD_make {K : PySem.W.Frag} {σ : L2.St} {H : Hp} {Q : VK} {f : En → M (List D)} (h : tD K E (eMake C g f) σ H Q) : tMake C (spD K g) [] E (tDs K E f) σ H Q := by
  obtain ⟨μ, ν, δ, st, S, o⟩ := h
  refine ⟨μ, ν, δ, st, S, o.fst.imp fun xs st1 μ1 H1 e1 s1 o1 vs hvs => ?_⟩
  intro x dx nx nd hne
  show spD K g (.ref x :: (vs ++ [])) _ _ E
  rw [List.append_nil]
  -- the new dict, then the new instance
  have s2 := s1.new (o := .own x) nd
  have e2 := s1.ext_new (o := .own x) nd
  have nx2 : (upd H1 dx (.own x)) x = none := by rw [upd_ne hne.symm]; exact nx
  have e3 : Ext ν μ1 (upd H1 dx (.own x)) (μ1 ++ [some x]) (upd (upd H1 dx (.own x)) x (.ins C dx [])) := hid_push s2 nx2
  have s3 : StoOk K (μ1 ++ [some x]) ν (upd (upd H1 dx (.own x)) x (.ins C dx [])) (st1 ++ [.ins C []]) := by
    refine s2.push nx2 ⟨x, dx, [], ?_, upd_same, by unfold FReps; rfl⟩
    rw [List.getElem?_append_right (Nat.le_refl _), Nat.sub_self]; rfl
  have hx : Rep K (μ1 ++ [some x]) (hid (μ1 ++ [some x]) ν (upd (upd H1 dx (.own x)) x (.ins C dx []))) (.obj st1.length) (.ref x) := by
    unfold Rep
    rw [← s1.len]
    refine ⟨by rw [List.length_append]; exact Nat.lt_succ_self _, fun a e => ?_⟩
    rw [List.getElem?_append_right (Nat.le_refl _), Nat.sub_self] at e
    simp at e
    rw [e]
  refine ⟨μ1 ++ [some x], ν, .obj st1.length :: xs, st1 ++ [.ins C []], s3, .cons hx ((hvs.ext e2).ext e3), ?_⟩
  unfold makeM at o1
  cases hg : g (.obj st1.length :: xs) (st1 ++ [.ins C []]) with
  | none => rw [hg] at o1; exact o1.elim
  | some res =>
    rw [hg] at o1
    cases res with
    | er C' fs st4 => exact fun μ' H' dd e4 s4 hxo => leaveX_rep s1 ((e2.trans e3).trans e4) s4 hxo o1
    | ok d st4 =>
      intro μ' H' e4 s4 v hv
      cases d with
      | non =>
        rw [rep_non hv]
        exact ⟨rfl, leave_rep s1 ((e2.trans e3).trans e4) s4 (hx.ext e4) o1⟩
      | _ => exact o1.elim
theorem de_make (M' : Mk X.K C f) (F : FnOk X.prog X.w X.K X.mg X.base (L2.CX X.prog X.w) k f fd ps (spD X.K g)) (hr : Room (k + 1) X.A) (hm : X.mg x = some (.ref C)) (hb : Binds X.K fd ps []) (hx : Passes (L2.CX X.prog X.w) X E) (ha : DA X E (e :: es) fa) (hg : Gl X x := by rfl)
    (hdb : (x == ("__debug__" : Str)) = false := by decide) (he : starEach (e :: es) X.env = (false, eval e X.env) :: starEach es X.env := by rfl) (hpl : (backTo pos (starEach es X.env)).any (·.1) = false := by rfl) :
    DE X E (.Call (.Name x p) (e :: es) [] pos) (eMake C g fa) := pe_imp (pe_make M' F hr hg hm hb .nil hx ha hdb he hpl) fun σ H Q h => tD_make h
/-- o.f, an attribute -/
def fldD (fl : Str) (o : D) : M D := fun st => match asI st o with
  | some (_, fs) => match fs.lookup fl with
    | some d => some (.ok d st)
    | none => none
  | none => none
/-- .. of an instance of the class at C -/
def fldC (C : Addr) (fl : Str) (o : D) : M D := fun st => match asI st o with
  | some (C', fs) => if C' = C then (match fs.lookup fl with
    | some d => some (.ok d st)
    | none => none) else none
  | none => none
def eFld (C : Addr) (fl : Str) (fo : EF) : EF := fun δ => (fo δ).bind (fldC C fl)
theorem de_fld {fl : Str} (he : DE X E o fo) (c : Cls X.K C) (n : NoAttr X.K C fl) (hb : attributeBase o fl X.env (eval o X.env) = eval o X.env := by rfl) : DE X E (.Attribute o fl pos) (eFld C fl fo) := pe_imp (pe_fld he hb) fun σ H Q ⟨μ, ν, δ, st, S, o⟩ => by
  refine ⟨μ, ν, δ, st, S, o.fst.imp fun d st1 μ1 H1 e1 s1 o1 v hv => ?_⟩
  unfold fldC at o1
  split at o1
  · rename_i C' fs hI
    split at o1
    · rename_i hc
      subst hc
      split at o1
      · rename_i d' hd
        obtain ⟨a, dx, gs, rfl, ha, hf⟩ := asI_rep s1 hv hI
        obtain ⟨w, h1, h2⟩ := (freps_look hf).1 d' hd
        exact ⟨a, C', dx, gs, w, rfl, ha, c, n, h1, o1.now s1 _ h2⟩
      · exact o1.elim
    · exact o1.elim
  · exact o1.elim
/-- o.f, a property -/
def ofC' (C : Addr) (o : D) : M Unit := fun st => match asI st o with
  | some (C', fs) => if C' = C then some (.ok () st) else none
  | none => none
def eProp (C : Addr) (g : List D → M D) (fo : EF) : EF := fun δ => (fo δ).bind fun o => (ofC' C o).bind fun _ => noer (g [o])
theorem de_prop {pp gg : Addr} {fl : Str} (he : DE X E o fo) (c : Cls X.K C) (hp : PropOf X.K C fl pp gg) (F : FnOk X.prog X.w X.K X.mg X.base (L2.CX X.prog X.w) k gg fd ps (spD X.K g)) (hr : Room (k + 1) X.A) (hb : Binds X.K fd ps [])
    (hab : attributeBase o fl X.env (eval o X.env) = eval o X.env := by rfl) : DE X E (.Attribute o fl pos) (eProp C g fo) := pe_imp (pe_prop he c hp F hr hb .nil (passL (X := X.nox)) hab) fun σ H Q ⟨μ, ν, δ, st, S, o⟩ => by
  refine ⟨μ, ν, δ, st, S, o.fst.imp fun d st1 μ1 H1 e1 s1 o1 v hv => ?_⟩
  have o2 := o1.fst
  unfold ofC' at o2
  split at o2
  · rename_i C' fs hI
    split at o2
    · rename_i hc
      subst hc
      obtain ⟨a, dx, gs, rfl, ha, hf⟩ := asI_rep s1 hv hI
      exact ⟨a, dx, gs, rfl, ha, μ1, ν, [d], st1, s1, .one hv, (o2.now s1).noer⟩
    · exact o2.elim
  · exact o2.elim
/-- o.f = e -/
def putD (fl : Str) (d : D) : List (Str × D) → List (Str × D)
  | [] => [(fl, d)]
  | p :: r => if p.1 = fl then (fl, d) :: r else p :: putD fl d r
def sFldD (C : Addr) (fl : Str) (fo fe : EF) : SF := fun δ => (fe δ).bind fun d => (fo δ).bind fun o st => match o with
  | .obj i => match st[i]? with
    | some (.ins C' fs) => if C' = C ∧ fs.length < 1000 then some (.ok (.nx δ) (st.set i (.ins C (putD fl d fs)))) else none
    | _ => none
  | _ => none
theorem putF_rep {K : PySem.W.Frag} {μ : Mu} {G : Hp} {fl : Str} {d : D} {v : V} (h : Rep K μ G d v) : ∀ {fs : List (Str × D)} {gs : List (Str × V)}, FReps K μ G fs gs → FReps K μ G (putD fl d fs) (putF fl v gs)
  | [], gs, hf => by
    unfold FReps at hf
    subst hf
    show FReps K μ G [(fl, d)] [(fl, v)]
    unfold FReps
    exact ⟨v, [], rfl, h, by unfold FReps; rfl⟩
  | p :: fs, gs, hf => by
    unfold FReps at hf
    obtain ⟨w, r, rfl, h1, h2⟩ := hf
    unfold putD putF
    by_cases hp : p.1 = fl
    · rw [if_pos hp, if_pos hp]
      subst hp
      unfold FReps
      exact ⟨v, r, rfl, h, h2⟩
    · rw [if_neg hp, if_neg hp]
      unfold FReps
      exact ⟨w, _, rfl, h1, putF_rep h h2⟩
theorem freps_len {K : PySem.W.Frag} {μ : Mu} {G : Hp} : ∀ {fs : List (Str × D)} {gs : List (Str × V)}, FReps K μ G fs gs → fs.length = gs.length
  | [], gs, h => by unfold FReps at h; subst h; rfl
  | p :: fs, gs, h => by
    unfold FReps at h
    obtain ⟨w, r, rfl, h1, h2⟩ := h
    rw [List.length_cons, List.length_cons, freps_len h2]
theorem ds_fld {fl : Str} {v : Expr} {fe : EF} {pos' : Pos} (he : DE X E o fo) (hv : DE X E v fe) (c : Cls X.K C) (n : NoAttr X.K C fl) (hs : swapsWith v (some (.Attribute o fl pos')) pos.line X.env = pure false := by rfl) :
    DSt X E (.Assign [.Attribute o fl pos'] v pos) (sFldD C fl fo fe) := ps_imp (ps_fld he hv hs) fun T σ H ⟨μ, ν, δ, st, S, o⟩ => by
  refine ⟨μ, ν, δ, st, S, o.fst.imp fun d st1 μ1 H1 e1 s1 o1 y hy => ?_⟩
  refine ⟨μ1, ν, δ, st1, S.ext e1 s1, o1.fst.imp fun ob st2 μ2 H2 e2 s2 o2 x hx => ?_⟩
  split at o2
  · rename_i i
    split at o2
    · rename_i C' fs hc
      split at o2
      · rename_i hh
        obtain ⟨rfl, hl⟩ := hh
        obtain ⟨⟨a, dx, gs, h1, h2, h3⟩, hav⟩ := s2.obj hx hc
        refine ⟨a, C', dx, gs, hav a h1, h2, c, n, by rw [← freps_len h3]; exact hl, ?_⟩
        have e3 : Ext ν μ2 H2 μ2 (upd H2 a (.ins C' dx (putF fl y gs))) := (s2.put (c := .dead) h1 trivial).2
        have P := s2.put (o := .ins C' dx (putF fl y gs)) (c := .ins C' (putD fl d fs)) h1 ⟨a, dx, _, h1, upd_same, (putF_rep (hy.ext e2) h3).ext e3⟩
        have q := (o2.go rfl P.2 P.1)
        exact q σ ((((S.env.ext e1).ext e2)).ext P.2)
      · exact o2.elim
    · exact o2.elim
  · exact o2.elim
end
end
end DL
end
section
namespace DL
open PySem PySem.Spec PyProof.Rows L2

/-! ### built-in functions -/
def lenD (ds : List D) : M D := fun st => match ds with
  | [.tup xs] => some (.ok (.int (xs.length : Nat)) st)
  | [.str x] => if x.length ≤ sizeLine then some (.ok (.int (x.length : Nat)) st) else none
  | [d] => match asL st d with
    | some xs => some (.ok (.int (xs.length : Nat)) st)
    | none => none
  | _ => none
section
variable {X : Cx} {E : XK} {pos : Pos}
theorem reps_one {K : PySem.W.Frag} {μ : Mu} {G : Hp} {d : D} {vs : List V} (h : Reps K μ G [d] vs) : ∃ v, vs = [v] ∧ Rep K μ G d v := by
  unfold Reps at h
  obtain ⟨v, r, rfl, h1, h2⟩ := h
  unfold Reps at h2
  subst h2
  exact ⟨v, rfl, h1⟩
theorem reps_two {K : PySem.W.Frag} {μ : Mu} {G : Hp} {d e : D} {vs : List V} (h : Reps K μ G [d, e] vs) : ∃ v w, vs = [v, w] ∧ Rep K μ G d v ∧ Rep K μ G e w := by
  unfold Reps at h
  obtain ⟨v, r, rfl, h1, h2⟩ := h
  obtain ⟨w, rfl, h3⟩ := reps_one h2
  exact ⟨v, w, rfl, h1, h3⟩
theorem cd_len : CallR X (.builtin "len") (rDs X.K E lenD) := callR_imp call_len fun xs H Q ⟨μ, ν, ds, st, S, r, o⟩ => by
  unfold lenD at o
  split at o
  · obtain ⟨v, rfl, h⟩ := reps_one r
    obtain ⟨a, vs, rfl, e2, e3, e4⟩ := asT_rep h rfl
    exact ⟨_, _, rfl, .inr ⟨vs, e2, e4.len⟩, o.now S _ to_int⟩
  · obtain ⟨v, rfl, h⟩ := reps_one r
    split at o
    · rename_i hx
      rw [rep_str h]
      exact ⟨_, _, rfl, ⟨hx, rfl⟩, o.now S _ to_int⟩
    · exact o.elim
  · obtain ⟨v, rfl, h⟩ := reps_one r
    split at o
    · rename_i hx
      obtain ⟨a, vs, rfl, e2, e3, e4⟩ := asL_rep S h hx
      exact ⟨_, _, rfl, .inl ⟨vs, e2, e4.len⟩, o.now S _ to_int⟩
    · exact o.elim
  · exact o.elim
/-- list(..) -/
def listD (ds : List D) : M D := fun st => match ds with
  | [.tup xs] => some (.ok (.lst xs) st)
  | [d] => match asL st d with
    | some xs => some (.ok (.lst xs) st)
    | none => none
  | _ => none
/-- .. into the store -/
def listN (ds : List D) : M D := fun st => match ds with
  | [.tup xs] => some (.ok (.obj st.length) (st ++ [.lst xs]))
  | [d] => match asL st d with
    | some xs => some (.ok (.obj st.length) (st ++ [.lst xs]))
    | none => none
  | _ => none
theorem cd_list : CallR X (.type "list") (rDs X.K E listD) := callR_imp call_list_of fun xs H Q ⟨μ, ν, ds, st, S, r, o⟩ => by
  unfold listD at o
  split at o
  · obtain ⟨v, rfl, h⟩ := reps_one r
    obtain ⟨a, vs, rfl, e2, e3, e4⟩ := asT_rep h rfl
    exact ⟨a, vs, rfl, .inr e2, fun p hp => o.go rfl (S.ext_new hp) (S.new hp) _ (rep_lst S hp e3 e4)⟩
  · obtain ⟨v, rfl, h⟩ := reps_one r
    split at o
    · rename_i hx
      obtain ⟨a, vs, rfl, e2, e3, e4⟩ := asL_rep S h hx
      exact ⟨a, vs, rfl, .inl e2, fun p hp => o.go rfl (S.ext_new hp) (S.new hp) _ (rep_lst S hp e3 e4)⟩
    · exact o.elim
  · exact o.elim
theorem cd_listN : CallR X (.type "list") (rDs X.K E listN) := callR_imp call_list_of fun xs H Q ⟨μ, ν, ds, st, S, r, o⟩ => by
  unfold listN at o
  split at o
  · obtain ⟨v, rfl, h⟩ := reps_one r
    obtain ⟨a, vs, rfl, e2, e3, e4⟩ := asT_rep h rfl
    exact ⟨a, vs, rfl, .inr e2, fun p hp => let ⟨s1, s2, s3⟩ := sto_lst S hp e3 e4; o.go rfl s2 s1 _ s3⟩
  · obtain ⟨v, rfl, h⟩ := reps_one r
    split at o
    · rename_i hx
      obtain ⟨a, vs, rfl, e2, e3, e4⟩ := asL_rep S h hx
      exact ⟨a, vs, rfl, .inl e2, fun p hp => let ⟨s1, s2, s3⟩ := sto_lst S hp e3 e4; o.go rfl s2 s1 _ s3⟩
    · exact o.elim
  · exact o.elim
def tupleD (ds : List D) : M D := fun st => match ds with
  | [.tup xs] => some (.ok (.tup xs) st)
  | [d] => match asL st d with
    | some xs => some (.ok (.tup xs) st)
    | none => none
  | _ => none
theorem cd_tuple : CallR X (.type "tuple") (rDs X.K E tupleD) := callR_imp call_tuple_of fun xs H Q ⟨μ, ν, ds, st, S, r, o⟩ => by
  unfold tupleD at o
  split at o
  · obtain ⟨v, rfl, h⟩ := reps_one r
    have h' := h
    obtain ⟨a, vs, rfl, e2, e3, e4⟩ := asT_rep h rfl
    exact ⟨a, vs, rfl, .inr ⟨e2, o.now S _ h'⟩⟩
  · obtain ⟨v, rfl, h⟩ := reps_one r
    split at o
    · rename_i hx
      obtain ⟨a, vs, rfl, e2, e3, e4⟩ := asL_rep S h hx
      exact ⟨a, vs, rfl, .inl ⟨e2, fun p hp => o.go rfl (S.ext_new hp) (S.new hp) _ (rep_tup S hp e3 e4)⟩⟩
    · exact o.elim
  · exact o.elim
def max2D (ds : List D) : M D := fun st => match ds with
  | [.int i, .int j] => some (.ok (.int (if j > i then j else i)) st)
  | _ => none
def min2D (ds : List D) : M D := fun st => match ds with
  | [.int i, .int j] => some (.ok (.int (if j < i then j else i)) st)
  | _ => none
theorem cd_max2 (hc : X.calm = true) : CallR X (.builtin "max") (rDs X.K E max2D) := callR_imp (call_max2 hc) fun xs H Q ⟨μ, ν, ds, st, S, r, o⟩ => by
  unfold max2D at o
  split at o
  · obtain ⟨v, w, rfl, h1, h2⟩ := reps_two r
    rw [rep_int h1, rep_int h2]
    exact ⟨_, _, rfl, o.now S _ to_int⟩
  · exact o.elim
theorem cd_min2 (hc : X.calm = true) : CallR X (.builtin "min") (rDs X.K E min2D) := callR_imp (call_min2 hc) fun xs H Q ⟨μ, ν, ds, st, S, r, o⟩ => by
  unfold min2D at o
  split at o
  · obtain ⟨v, w, rfl, h1, h2⟩ := reps_two r
    rw [rep_int h1, rep_int h2]
    exact ⟨_, _, rfl, o.now S _ to_int⟩
  · exact o.elim
/-- a list of ints, of bools -/
def asInts : List D → Option (List Int)
  | [] => some []
  | .int i :: r => match asInts r with
    | some l => some (i :: l)
    | none => none
  | _ => none
def asBls : List D → Option (List Bool)
  | [] => some []
  | .bl i :: r => match asBls r with
    | some l => some (i :: l)
    | none => none
  | _ => none
theorem asInts_map {ns : List Int} : asInts (ns.map D.int) = some ns := by
  induction ns with
  | nil => rfl
  | cons n ns ih => rw [List.map_cons]; unfold asInts; rw [ih]
theorem asBls_map {ns : List Bool} : asBls (ns.map D.bl) = some ns := by
  induction ns with
  | nil => rfl
  | cons n ns ih => rw [List.map_cons]; unfold asBls; rw [ih]
theorem asInts_eq : ∀ {ds : List D} {ns : List Int}, asInts ds = some ns → ds = ns.map D.int
  | [], ns, h => by cases h; rfl
  | .int i :: ds, ns, h => by
    unfold asInts at h
    cases q : asInts ds with
    | none => rw [q] at h; cases h
    | some l =>
      rw [q] at h
      cases h
      rw [asInts_eq q]; rfl
  | .non :: ds, ns, h => by unfold asInts at h; cases h
  | .bl _ :: ds, ns, h => by unfold asInts at h; cases h
  | .str _ :: ds, ns, h => by unfold asInts at h; cases h
  | .lst _ :: ds, ns, h => by unfold asInts at h; cases h
  | .fl _ :: ds, ns, h => by unfold asInts at h; cases h
  | .tup _ :: ds, ns, h => by unfold asInts at h; cases h
  | .ins _ _ :: ds, ns, h => by unfold asInts at h; cases h
  | .exc _ _ :: ds, ns, h => by unfold asInts at h; cases h
  | .dct _ :: ds, ns, h => by unfold asInts at h; cases h
  | .obj _ :: ds, ns, h => by unfold asInts at h; cases h
  | .fn _ :: ds, ns, h => by unfold asInts at h; cases h
theorem asBls_eq : ∀ {ds : List D} {ns : List Bool}, asBls ds = some ns → ds = ns.map D.bl
  | [], ns, h => by cases h; rfl
  | .bl i :: ds, ns, h => by
    unfold asBls at h
    cases q : asBls ds with
    | none => rw [q] at h; cases h
    | some l =>
      rw [q] at h
      cases h
      rw [asBls_eq q]; rfl
  | .non :: ds, ns, h => by unfold asBls at h; cases h
  | .int _ :: ds, ns, h => by unfold asBls at h; cases h
  | .str _ :: ds, ns, h => by unfold asBls at h; cases h
  | .lst _ :: ds, ns, h => by unfold asBls at h; cases h
  | .fl _ :: ds, ns, h => by unfold asBls at h; cases h
  | .tup _ :: ds, ns, h => by unfold asBls at h; cases h
  | .ins _ _ :: ds, ns, h => by unfold asBls at h; cases h
  | .exc _ _ :: ds, ns, h => by unfold asBls at h; cases h
  | .dct _ :: ds, ns, h => by unfold asBls at h; cases h
  | .obj _ :: ds, ns, h => by unfold asBls at h; cases h
  | .fn _ :: ds, ns, h => by unfold asBls at h; cases h
theorem reps_ints {K : PySem.W.Frag} {μ : Mu} {G : Hp} : ∀ {ns : List Int} {vs : List V}, Reps K μ G (ns.map D.int) vs → vs = ns.map V.int
  | [], vs, h => by unfold Reps at h; exact h
  | n :: ns, vs, h => by
    rw [List.map_cons] at h
    unfold Reps at h
    obtain ⟨v, r, rfl, h1, h2⟩ := h
    rw [rep_int h1, reps_ints h2]; rfl
theorem reps_bls {K : PySem.W.Frag} {μ : Mu} {G : Hp} : ∀ {ns : List Bool} {vs : List V}, Reps K μ G (ns.map D.bl) vs → vs = ns.map V.bl
  | [], vs, h => by unfold Reps at h; exact h
  | n :: ns, vs, h => by
    rw [List.map_cons] at h
    unfold Reps at h
    obtain ⟨v, r, rfl, h1, h2⟩ := h
    rw [rep_bl h1, reps_bls h2]; rfl
def allD (ds : List D) : M D := fun st => match ds with
  | [d] => match asL st d with
    | some xs => match asBls xs with
      | some bs => some (.ok (.bl (bs.all id)) st)
      | none => none
    | none => none
  | _ => none
def anyBD (ds : List D) : M D := fun st => match ds with
  | [d] => match asL st d with
    | some xs => match asBls xs with
      | some bs => some (.ok (.bl (bs.any id)) st)
      | none => none
    | none => none
  | _ => none
theorem cd_all (hc : X.calm = true) : CallR X (.builtin "all") (rDs X.K E allD) := callR_imp (cr_all hc) fun xs H Q ⟨μ, ν, ds, st, S, r, o⟩ => by
  unfold allD at o
  split at o
  · obtain ⟨v, rfl, h⟩ := reps_one r
    split at o
    · rename_i hx
      split at o
      · rename_i bs hb
        obtain ⟨a, vs, rfl, e2, e3, e4⟩ := asL_rep S h hx
        rw [asBls_eq hb] at e4
        rw [reps_bls e4] at e2
        exact ⟨a, bs, rfl, e2, o.now S _ to_bl⟩
      · exact o.elim
    · exact o.elim
  · exact o.elim
def sumD (ds : List D) : M D := fun st => match ds with
  | [d] => match asL st d with
    | some xs => match asInts xs with
      | some ns => some (.ok (.int ns.sum) st)
      | none => none
    | none => none
  | _ => none
theorem cd_sum (hc : X.calm = true) : CallR X (.builtin "sum") (rDs X.K E sumD) := callR_imp (cr_sum hc) fun xs H Q ⟨μ, ν, ds, st, S, r, o⟩ => by
  unfold sumD at o
  split at o
  · obtain ⟨v, rfl, h⟩ := reps_one r
    split at o
    · rename_i hx
      split at o
      · rename_i bs hb
        obtain ⟨a, vs, rfl, e2, e3, e4⟩ := asL_rep S h hx
        rw [asInts_eq hb] at e4
        rw [reps_ints e4] at e2
        exact ⟨a, bs, rfl, e2, o.now S _ to_int⟩
      · exact o.elim
    · exact o.elim
  · exact o.elim
/-- int(..) of an int or a bool -/
def intD (ds : List D) : M D := fun st => match ds with
  | [.int i] => some (.ok (.int i) st)
  | [.bl b] => some (.ok (.int (if b then 1 else 0)) st)
  | _ => none
theorem cd_int : CallR X (.type "int") (rDs X.K E intD) := callR_imp call_int1 fun xs H Q ⟨μ, ν, ds, st, S, r, o⟩ => by
  unfold intD at o
  split at o
  · obtain ⟨v, rfl, h⟩ := reps_one r
    rw [rep_int h]
    exact .inl ⟨_, rfl, o.now S _ to_int⟩
  · obtain ⟨v, rfl, h⟩ := reps_one r
    rw [rep_bl h]
    exact .inr ⟨_, rfl, o.now S _ to_int⟩
  · exact o.elim
/-! calls of them -/
theorem tDs_cb {K : PySem.W.Frag} {g : List D → M D} {f : En → M (List D)} {σ : L2.St} {H : Hp} {Q : VK} (h : tD K E (eCall g f) σ H Q) : tCB (rDs K E g) (tDs K E f) σ H Q := by
  obtain ⟨μ, ν, δ, st, S, o⟩ := h
  exact ⟨μ, ν, δ, st, S, o.fst.imp fun xs st1 μ1 H1 e1 s1 o1 vs hv => ⟨μ1, ν, xs, st1, s1, hv, o1⟩⟩
theorem de_cb {x : Str} {p : Pos} {e : Expr} {es : List Expr} {id : String} {g : List D → M D} {fa : En → M (List D)} (hc : CallR X (.builtin id) (rDs X.K E g)) (hm : X.mg x = none) (ha : DA X E (e :: es) fa) (hg : Gl X x := by rfl) (hv : bootBuiltins x = some (.builtin id) := by decide +kernel)
    (hn : x ≠ "__name__" := by decide) (hdb : (x == ("__debug__" : Str)) = false := by decide)
    (he : starEach (e :: es) X.env = (false, eval e X.env) :: starEach es X.env := by rfl) (hpl : (backTo pos (starEach es X.env)).any (·.1) = false := by rfl) : DE X E (.Call (.Name x p) (e :: es) [] pos) (eCall g fa) :=
  pe_imp (pe_callB hc hg hm hv ha hn hdb he hpl) fun σ H Q h => tDs_cb h
theorem de_ct {x : Str} {p : Pos} {e : Expr} {es : List Expr} {T : String} {g : List D → M D} {fa : En → M (List D)} (hc : CallR X (.type T) (rDs X.K E g)) (hm : X.mg x = none) (ha : DA X E (e :: es) fa) (hg : Gl X x := by rfl) (hv : bootBuiltins x = some (.type T) := by decide +kernel)
    (hn : x ≠ "__name__" := by decide) (hdb : (x == ("__debug__" : Str)) = false := by decide)
    (he : starEach (e :: es) X.env = (false, eval e X.env) :: starEach es X.env := by rfl) (hpl : (backTo pos (starEach es X.env)).any (·.1) = false := by rfl) : DE X E (.Call (.Name x p) (e :: es) [] pos) (eCall g fa) :=
  pe_imp (pe_callTy hc hg hm hv ha hn hdb he hpl) fun σ H Q h => tDs_cb h

/-! ### isinstance -/
/-- the types that a written second argument names -/
inductive Ty where | int | bool | str | list | tuple | own (C : Addr)
/-- the answers; cls tells of an own class and an own class -/
def isTy : D → Ty → Option Bool
  | .int _, .int => some true
  | .bl _, .int => some true
  | .bl _, .bool => some true
  | .str _, .str => some true
  | .lst _, .list => some true
  | .fl _, .list => some true
  | .tup _, .tuple => some true
  | .ins C _, .own C' => some (C == C')
  | .obj _, _ => none
  | .exc _ _, _ => none
  | .fn _, _ => none
  | _, _ => some false
end
end DL
end
section
namespace DL
open PySem PySem.Spec PyProof.Rows L2

/-! ### the type of data -/
abbrev Tg := Sum String Addr
def tgV : Tg → Value
  | .inl t => .type t
  | .inr C => .ref C
def tagD (st : Sto) : D → Option Tg
  | .non => some (.inl "NoneType")
  | .bl _ => some (.inl "bool")
  | .int _ => some (.inl "int")
  | .str _ => some (.inl "str")
  | .lst _ => some (.inl "list")
  | .tup _ => some (.inl "tuple")
  | .dct _ => some (.inl "dict")
  | .ins C _ => some (.inr C)
  | .obj i => match st[i]? with
    | some (.lst _) => some (.inl "list")
    | some (.ins C _) => some (.inr C)
    | _ => none
  | _ => none
/-- what is asked of an own class whose instances have their type read -/
structure InsT (K : PySem.W.Frag) (C : Addr) : Prop where
  cl : Cls K C
  ha : PySem.W.findIn K (.ref C) "__class__" = some (some (.builtin "object.__class__"))
  hn : PySem.W.specialIn K (.builtin "object.__class__") "__get__" = some (some (.builtin "getset_descriptor.__get__"))
  htk : PySem.W.takesIn K (.builtin "object.__class__") = some true
  hm : PySem.W.mroIn K C (.type "object") = some true
theorem tag_rep {K : PySem.W.Frag} {μ : Mu} {ν : List Addr} {H : Hp} {st : Sto} (S : StoOk K μ ν H st) {d : D} {v : V} {t : Tg} (h : Rep K μ (hid μ ν H) d v) (e : tagD st d = some t) (hI : ∀ C, t = .inr C → InsT K C) : TyX K H v (tgV t) := by
  unfold tagD at e
  split at e
  · cases e; rw [rep_non h]; exact .base .non
  · cases e; rw [rep_bl h]; exact .base (.bl _)
  · cases e; rw [rep_int h]; exact .base (.int _)
  · cases e; rw [rep_str h]; exact .base (.str _)
  · cases e
    unfold Rep at h
    obtain ⟨a, vs, rfl, e2, _⟩ := h
    exact .base (.lst (hid_some e2).1)
  · cases e
    unfold Rep at h
    obtain ⟨a, vs, rfl, e2, _⟩ := h
    rcases e2 with (e2 | ⟨o, e2⟩) | ⟨o, its, n, hk, hc, hd, hz, hv⟩
    · exact .base (.tup (hid_some e2).1)
    · exact .fTuple (hid_some e2).1
    · exact .kTuple hk hc
  · cases e
    unfold Rep at h
    obtain ⟨a, ws, rfl, e2, _⟩ := h
    rcases e2 with e2 | ⟨o, e2⟩
    · exact .base (.dK (hid_some e2).1)
    · exact .fDict (hid_some e2).1
  · cases e
    unfold Rep at h
    obtain ⟨a, dx, gs, rfl, e2, _⟩ := h
    have i := hI _ rfl
    exact .base (.ins (hid_some e2).1 i.cl i.ha i.hn i.htk i.hm)
  · split at e
    · cases e
      rename_i hc
      obtain ⟨⟨a, vs, h1, h2, _⟩, hv⟩ := S.obj h hc
      rw [hv a h1]
      exact .base (.lst h2)
    · cases e
      rename_i hc
      obtain ⟨⟨a, dx, gs, h1, h2, _⟩, hv⟩ := S.obj h hc
      rw [hv a h1]
      have i := hI _ rfl
      exact .base (.ins h2 i.cl i.ha i.hn i.htk i.hm)
    · cases e
  · cases e

/-! ### isinstance -/
def isiD (an : Tg → Option Bool) (d : D) : M D := fun st => match tagD st d with
  | some t => match an t with
    | some b => some (.ok (.bl b) st)
    | none => none
  | none => none
def eIsi (an : Tg → Option Bool) (f : EF) : EF := fun δ => (f δ).bind (isiD an)
section
variable {X : Cx} {E : XK} {pos : Pos} {an : Tg → Option Bool} {fe : EF} {e : Expr} {p : Pos}
/-- isinstance(e, T): c the class as a value -/
theorem de_isi {T : Expr} {c : V} {u : Value} (hm : X.mg "isinstance" = none) (he : DE X E e fe) (hT : PE X T (tC c)) (hc : ClsV c u) (han : ∀ t b, an t = some b → (∀ C, t = .inr C → InsT X.K C) ∧ PySem.W.kitOne X.K (tgV t) u = some b) (hg : Gl X "isinstance" := by rfl)
    (hs1 : starEach [e, T] X.env = (false, eval e X.env) :: starEach [T] X.env := by rfl) (hs2 : starEach [T] X.env = (false, eval T X.env) :: starEach [] X.env := by rfl) (hpl : (backTo pos (starEach [T] X.env)).any (·.1) = false := by rfl) :
    DE X E (.Call (.Name "isinstance" p) [e, T] [] pos) (eIsi an fe) :=
  pe_imp (pe_callB call_isi hg hm (by decide +kernel) (pa_cons he (pa_cons hT pa_nil hs2) hs1) (by decide) (by decide) hs1 hpl) fun σ H Q ⟨μ, ν, δ, st, S, o⟩ => by
    refine ⟨μ, ν, δ, st, S, o.fst.imp fun d st1 μ1 H1 e1 s1 o1 v hv => ?_⟩
    unfold isiD at o1
    split at o1
    · rename_i t ht
      split at o1
      · rename_i b hb
        obtain ⟨h1, h2⟩ := han t b hb
        exact ⟨v, c, tgV t, u, b, rfl, hc, tag_rep s1 hv ht h1, h2, o1.now s1 _ to_bl⟩
      · exact o1.elim
    · exact o1.elim
/-- isinstance(e, (T, ..)) -/
theorem de_isiT {Ts : List Expr} {cs : List V} {us : List Value} {tT : TA} {k : Nat} {p2 : Pos} (hm : X.mg "isinstance" = none) (he : DE X E e fe) (hT : PA X Ts tT) (ht : ∀ σ H Q, Q cs H → tT σ H Q) (hc : Paired ClsV cs us) (hl : cs.length ≤ sizeLine)
    (han : ∀ t b, an t = some b → (∀ C, t = .inr C → InsT X.K C) ∧ PySem.W.kitAny X.K (tgV t) us = some b) (hg : Gl X "isinstance" := by rfl)
    (hs1 : starEach [e, .Tuple Ts k p2] X.env = (false, eval e X.env) :: starEach [.Tuple Ts k p2] X.env := by rfl) (hs2 : starEach [.Tuple Ts k p2] X.env = (false, eval (.Tuple Ts k p2) X.env) :: starEach [] X.env := by rfl) (hpl : (backTo pos (starEach [.Tuple Ts k p2] X.env)).any (·.1) = false := by rfl) :
    DE X E (.Call (.Name "isinstance" p) [e, .Tuple Ts k p2] [] pos) (eIsi an fe) :=
  pe_imp (pe_callB call_isiT hg hm (by decide +kernel) (pa_cons he (pa_cons (pe_tup hT) pa_nil hs2) hs1) (by decide) (by decide) hs1 hpl) fun σ H Q ⟨μ, ν, δ, st, S, o⟩ => by
    refine ⟨μ, ν, δ, st, S, o.fst.imp fun d st1 μ1 H1 e1 s1 o1 v hv => ?_⟩
    unfold isiD at o1
    split at o1
    · rename_i t htg
      split at o1
      · rename_i b hb
        obtain ⟨h1, h2⟩ := han t b hb
        refine ht σ H1 _ ⟨hl, fun q hq => ?_⟩
        have s2 := s1.new (o := .tup cs) hq
        have e2 := s1.ext_new (o := .tup cs) hq
        exact ⟨v, q, cs, tgV t, us, b, rfl, upd_same, hc, tag_rep s2 (hv.ext e2) htg h1, h2, o1.go rfl e2 s2 _ to_bl⟩
      · exact o1.elim
    · exact o1.elim
/-- the answers for one built-in class: own classes are none of it -/
def anB (T : String) (cs : List Addr) : Tg → Option Bool
  | .inl t => kitB t T
  | .inr C => if C ∈ cs then some false else none
theorem anB_ok {K : PySem.W.Frag} {T : String} {cs : List Addr} (h : ∀ C ∈ cs, InsT K C ∧ PySem.W.kitOne K (.ref C) (.type T) = some false) : ∀ t b, anB T cs t = some b → (∀ C, t = .inr C → InsT K C) ∧ PySem.W.kitOne K (tgV t) (.type T) = some b := by
  intro t b e
  cases t with
  | inl t => exact ⟨fun C z => (nomatch z), kit_ty e⟩
  | inr C =>
    have e : (if C ∈ cs then some false else none) = some b := e
    split at e
    · rename_i hm
      cases e
      exact ⟨fun C' z => by cases z; exact (h C hm).1, (h C hm).2⟩
    · cases e
def anB2 (T T2 : String) (cs : List Addr) : Tg → Option Bool
  | .inl t => match kitB t T with
    | some true => some true
    | some false => kitB t T2
    | none => none
  | .inr C => if C ∈ cs then some false else none
theorem anB2_ok {K : PySem.W.Frag} {T T2 : String} {cs : List Addr} (h : ∀ C ∈ cs, InsT K C ∧ PySem.W.kitOne K (.ref C) (.type T) = some false ∧ PySem.W.kitOne K (.ref C) (.type T2) = some false) :
    ∀ t b, anB2 T T2 cs t = some b → (∀ C, t = .inr C → InsT K C) ∧ PySem.W.kitAny K (tgV t) [.type T, .type T2] = some b := by
  intro t b e
  cases t with
  | inl t =>
    refine ⟨fun C z => (nomatch z), ?_⟩
    have e : (match kitB t T with | some true => some true | some false => kitB t T2 | none => none) = some b := e
    unfold PySem.W.kitAny
    show (match PySem.W.kitOne K (.type t) (.type T) with | some true => some true | some false => PySem.W.kitAny K (.type t) [.type T2] | none => none) = some b
    cases q : kitB t T with
    | none => rw [q] at e; cases e
    | some k =>
      rw [q] at e
      rw [kit_ty q]
      cases k with
      | true => exact e
      | false =>
        show PySem.W.kitAny K (.type t) [.type T2] = some b
        unfold PySem.W.kitAny
        rw [kit_ty (show kitB t T2 = some b from e)]
        cases b <;> rfl
  | inr C =>
    have e : (if C ∈ cs then some false else none) = some b := e
    split at e
    · rename_i hm
      cases e
      refine ⟨fun C' z => by cases z; exact (h C hm).1, ?_⟩
      unfold PySem.W.kitAny
      show (match PySem.W.kitOne K (.ref C) (.type T) with | some true => some true | some false => PySem.W.kitAny K (.ref C) [.type T2] | none => none) = some false
      rw [(h C hm).2.1]
      show PySem.W.kitAny K (.ref C) [.type T2] = some false
      unfold PySem.W.kitAny
      rw [(h C hm).2.2]
      rfl
    · cases e
/-- the answers for an own class at C0 -/
def anO (C0 : Addr) (cs : List Addr) : Tg → Option Bool
  | .inl t => if t ∈ ["NoneType", "bool", "int", "str", "list", "tuple", "dict"] then some false else none
  | .inr C => if C = C0 then some true else if C ∈ cs then some false else none
theorem anO_ok {K : PySem.W.Frag} {C0 : Addr} {cs : List Addr} (h0 : InsT K C0) (hb : ∀ t ∈ ["NoneType", "bool", "int", "str", "list", "tuple", "dict"], PySem.W.kitOne K (.type t) (.ref C0) = some false)
    (h : ∀ C ∈ cs, InsT K C ∧ PySem.W.kitOne K (.ref C) (.ref C0) = some false) : ∀ t b, anO C0 cs t = some b → (∀ C, t = .inr C → InsT K C) ∧ PySem.W.kitOne K (tgV t) (.ref C0) = some b := by
  intro t b e
  cases t with
  | inl t =>
    have e : (if t ∈ ["NoneType", "bool", "int", "str", "list", "tuple", "dict"] then some false else none) = some b := e
    split at e
    · rename_i hm
      cases e
      exact ⟨fun C z => (nomatch z), hb t hm⟩
    · cases e
  | inr C =>
    have e : (if C = C0 then some true else if C ∈ cs then some false else none) = some b := e
    split at e
    · rename_i hc
      have e : true = b := Option.some.inj e
      subst e
      subst hc
      refine ⟨fun C' z => by cases z; exact h0, ?_⟩
      show PySem.W.kitOne K (.ref C) (.ref C) = some true
      unfold PySem.W.kitOne
      rw [if_pos (by simp)]
    · split at e
      · rename_i hm
        cases e
        exact ⟨fun C' z => by cases z; exact (h C hm).1, (h C hm).2⟩
      · cases e

/-! ### the operators of an own class -/
theorem run_at {A : Around} {CX : CXT} {k : Nat} {f : Addr} {fd : FuncData} {ps : List Str} {sp : Sp} {pins : List (Addr × Obj)} {σ : L2.St} {H : Hp} {s : Shared} {Q : VK} {us : List Value} {vs : List V} (F : FnOk X.prog X.w X.K X.mg X.base CX k f fd ps sp) (hr : Room k A) (hf : A.frames = X.A.frames) (hb : Binds X.K fd ps []) (hx : Passes CX X E)
    (I : Inv X pins σ H s) (r : Vals vs us) (h : sp vs H Q E) : wpAny (model X.prog X.w) A (call (.ref f) us) (EP X pins σ Q) X.xe s := by
  have hl : us.length = ps.length := by rw [← r.length]; exact F.len _ _ _ _ h
  have e0 : Env0 X.prog X.w X.K X.mg X.base A X.stack s H := by
    have e := I.env0
    exact ⟨by rw [hf]; exact e.frames, e.mod, e.bs, e.bsz, e.funs, e.frf, e.hok, e.bare⟩
  refine wpAny_call (codeAny_mono (F.run A X.stack s H ⟨us, []⟩ us vs Q E hr e0 (by
    have := hb s us I.kIn (by rw [List.append_nil]; exact hl)
    rw [List.append_nil] at this
    exact this) r h) fun r s' hq => ?_)
  cases r with
  | error e => exact hx pins σ H s e s' I hq
  | ok fl =>
    cases fl with
    | ret u => exact I.after hq
    | next => exact False.elim hq
    | brk => exact False.elim hq
    | cont => exact False.elim hq
/-- o[i] of an own class -/
def ownM (C : Addr) (g : List D → M D) (o : D) (xs : List D) : M D := (ofC' C o).bind fun _ => g (o :: xs)
theorem own_rep {K : PySem.W.Frag} {μ : Mu} {ν : List Addr} {H : Hp} {st : Sto} {C : Addr} {g : List D → M D} {o : D} {xs : List D} {v : V} {k : D → Sto → Mu → Hp → Prop} (S : StoOk K μ ν H st) (h : Rep K μ (hid μ ν H) o v) (q : Out K ν E μ H (ownM C g o xs st) k) :
    ∃ a dx gs, v = .ref a ∧ H a = some (.ins C dx gs) ∧ Out K ν E μ H (g (o :: xs) st) k := by
  have q1 := Out.fst (m := ofC' C o) (f := fun _ => g (o :: xs)) q
  unfold ofC' at q1
  split at q1
  · rename_i C' fs hI
    split at q1
    · rename_i hc
      subst hc
      obtain ⟨a, dx, gs, rfl, ha, _⟩ := asI_rep S h hI
      exact ⟨a, dx, gs, rfl, ha, q1.now S⟩
    · exact q1.elim
  · exact q1.elim
section
variable {k : Nat} {f C : Addr} {fd : FuncData} {ps : List Str} {g : List D → M D}
def eSub (C : Addr) (g : List D → M D) (fo fi : EF) : EF := eOp2 (fun o i => ownM C g o [i]) fo fi
theorem de_subO {o i : Expr} {fo fi : EF} (ho : DE X E o fo) (hi : DE X E i fi) (hs : PySem.W.findIn X.K (.ref C) "__getitem__" = some (some (.ref f))) (hfn : PySem.W.fnIn X.K f = true) (hf : PySem.W.isFn X.K (.ref f) = true)
    (F : FnOk X.prog X.w X.K X.mg X.base (L2.CX X.prog X.w) k f fd ps (spD X.K g)) (hr : Room (k + 1) X.A) (hb : Binds X.K fd ps []) (hx : Passes (L2.CX X.prog X.w) X E)
    (hsl : ∀ x u, subscripted i true (.ref x) u = runValue (.builtin "lifetime.subscript" ⟨[.ref x, u], []⟩) := by intro _ _; with_unfolding_all rfl) : DE X E (.Subscript o i pos) (eSub C g fo fi) := by
  refine ⟨fun pins s σ H Q I h => ?_⟩
  have h' := tD_op2 h
  refine Subscript_ (binT ho hi I h' fun v u s2 x y H2 I2 rx ry q => ?_)
  obtain ⟨μ, ν, dx, dy, st, S, hx1, hy1, o1⟩ := q
  obtain ⟨a, dd, gs, rfl, ha, o2⟩ := own_rep S hx1 o1
  obtain rfl : v = Value.ref a := rx
  obtain ⟨mA, J, _⟩ := ins_get I2.hok ha
  obtain ⟨od, J, _⟩ := J.look
  obtain ⟨m, hF⟩ := I2.fr
  refine PySem.W.sub_K hF I2.ok.mod.kin J hs hfn hf ?_ (hsl a u)
  exact run_at (vs := [.ref a, y]) F hr.in1 rfl hb hx I2 (.cons rfl (.cons ry .nil)) ⟨μ, ν, [dx, dy], st, S, .cons hx1 (.one hy1), o2⟩
/-- x in o, x not in o -/
def inOD (C : Addr) (g : List D → M D) (x o : D) : M D := (ownM C g o [x]).bind fun d => (bD d).bind fun b => M.pure (.bl b)
def ninOD (C : Addr) (g : List D → M D) (x o : D) : M D := (ownM C g o [x]).bind fun d => (bD d).bind fun b => M.pure (.bl (!b))
theorem od_inO (hs : PySem.W.findIn X.K (.ref C) "__contains__" = some (some (.ref f))) (hf : PySem.W.isFn X.K (.ref f) = true)
    (F : FnOk X.prog X.w X.K X.mg X.base (L2.CX X.prog X.w) k f fd ps (spD X.K g)) (hr : Room k X.A) (hb : Binds X.K fd ps []) (hx : Passes (L2.CX X.prog X.w) X E) : OpR X (compareOp .In) (rD2 X.K E (inOD C g)) := by
  intro pins s σ H x y v u Q I rx ry h
  obtain ⟨μ, ν, dx, dy, st, S, hx1, hy1, o1⟩ := h
  obtain ⟨a, dd, gs, rfl, ha, o2⟩ := own_rep S hy1 (Out.fst (m := ownM C g dy [dx]) (f := fun d => (bD d).bind fun b => M.pure (D.bl b)) o1)
  obtain rfl : u = Value.ref a := ry
  obtain ⟨mA, J, _⟩ := ins_get I.hok ha
  obtain ⟨od, J, _⟩ := J.look
  obtain ⟨m, hF⟩ := I.fr
  refine PySem.W.in_K hF I.ok.mod.kin J hs hf (thn (run_at (vs := [.ref a, x]) (Q := fun z H' => ∃ b, z = .bl b ∧ Q (.bl b) H') F hr rfl hb hx I (.cons rfl (.cons rx .nil)) ⟨μ, ν, [dy, dx], st, S, .cons hy1 (.one hx1), o2.imp fun d st1 μ1 H1 e1 s1 o3 w hw => ?_⟩) fun r s' q => ?_)
  · obtain ⟨b, rfl, o4⟩ := bD_rep s1 hw o3.fst
    exact ⟨b, rfl, o4.ret s1 _ to_bl⟩
  · obtain ⟨z, H', I', rz, b, rfl, q⟩ := q
    cases rz
    exact wpAny_truthy_bool ⟨.bl b, H', I', rfl, q⟩
theorem od_ninO (hs : PySem.W.findIn X.K (.ref C) "__contains__" = some (some (.ref f))) (hf : PySem.W.isFn X.K (.ref f) = true)
    (F : FnOk X.prog X.w X.K X.mg X.base (L2.CX X.prog X.w) k f fd ps (spD X.K g)) (hr : Room k X.A) (hb : Binds X.K fd ps []) (hx : Passes (L2.CX X.prog X.w) X E) : OpR X (compareOp .NotIn) (rD2 X.K E (ninOD C g)) := by
  intro pins s σ H x y v u Q I rx ry h
  obtain ⟨μ, ν, dx, dy, st, S, hx1, hy1, o1⟩ := h
  obtain ⟨a, dd, gs, rfl, ha, o2⟩ := own_rep S hy1 (Out.fst (m := ownM C g dy [dx]) (f := fun d => (bD d).bind fun b => M.pure (D.bl (!b))) o1)
  obtain rfl : u = Value.ref a := ry
  obtain ⟨mA, J, _⟩ := ins_get I.hok ha
  obtain ⟨od, J, _⟩ := J.look
  obtain ⟨m, hF⟩ := I.fr
  refine PySem.W.notIn_K hF I.ok.mod.kin J hs hf (thn (run_at (vs := [.ref a, x]) (Q := fun z H' => ∃ b, z = .bl b ∧ Q (.bl (!b)) H') F hr rfl hb hx I (.cons rfl (.cons rx .nil)) ⟨μ, ν, [dy, dx], st, S, .cons hy1 (.one hx1), o2.imp fun d st1 μ1 H1 e1 s1 o3 w hw => ?_⟩) fun r s' q => ?_)
  · obtain ⟨b, rfl, o4⟩ := bD_rep s1 hw o3.fst
    exact ⟨b, rfl, o4.ret s1 _ to_bl⟩
  · obtain ⟨z, H', I', rz, b, rfl, q⟩ := q
    cases rz
    exact wpAny_truthy_bool ⟨.bl (!b), H', I', rfl, q⟩
/-- o == x by the class's own __eq__ -/
def eqOD (C : Addr) (g : List D → M D) (ok : Tg → Bool) (o x : D) : M D := fun st => match tagD st x with
  | some t => if ok t = true then ((ownM C g o [x]).bind fun d => (bD d).bind fun b => M.pure (.bl b)) st else none
  | none => none
theorem od_eqO {ok : Tg → Bool} (hu : X.A.units < cLine) (hs : PySem.W.findIn X.K (.ref C) "__eq__" = some (some (.ref f))) (hf : PySem.W.isFn X.K (.ref f) = true) (hok : ∀ t, ok t = true → (∀ C, t = .inr C → InsT X.K C) ∧ PySem.W.notFirst X.K C (tgV t) = true)
    (F : FnOk X.prog X.w X.K X.mg X.base (L2.CX X.prog X.w) k f fd ps (spD X.K g)) (hr : Room k X.A) (hb : Binds X.K fd ps []) (hx : Passes (L2.CX X.prog X.w) X E) : OpR X (compareOp .Eq) (rD2 X.K E (eqOD C g ok)) := by
  intro pins s σ H x y v u Q I rx ry h
  obtain ⟨μ, ν, dx, dy, st, S, hx1, hy1, o1⟩ := h
  unfold eqOD at o1
  split at o1
  case h_2 => exact o1.elim
  rename_i t ht
  split at o1
  case isFalse => exact o1.elim
  rename_i hkt
  obtain ⟨hI, hnf⟩ := hok t hkt
  obtain ⟨a, dd, gs, rfl, ha, o2⟩ := own_rep S hx1 (Out.fst (m := ownM C g dx [dy]) (f := fun d => (bD d).bind fun b => M.pure (D.bl b)) o1)
  obtain rfl : v = Value.ref a := rx
  obtain ⟨mA, J, _⟩ := ins_get I.hok ha
  obtain ⟨od, J, _⟩ := J.look
  obtain ⟨m, hF⟩ := I.fr
  obtain ⟨P, Z, pp, hxx⟩ := kit_of I ry (tag_rep S hy1 ht hI)
  show wpAny (model X.prog X.w) X.A (richCompare .Eq (.ref a) u) (EP X pins σ Q) X.xe s
  refine PySem.W.cmp_K (op := .Eq) (tb := tgV t) hu hF I.ok.mod.kin J (Z.ty _ _ I.kIn pp) hnf hs hf (thn (run_at (vs := [.ref a, y]) (Q := fun z H' => ∃ b, z = .bl b ∧ Q (.bl b) H') F hr rfl hb hx I (.cons rfl (.cons ry .nil)) ⟨μ, ν, [dx, dy], st, S, .cons hx1 (.one hy1), o2.imp fun d st1 μ1 H1 e1 s1 o3 w hw => ?_⟩) fun r s' q => ?_)
  · obtain ⟨b, rfl, o4⟩ := bD_rep s1 hw o3.fst
    exact ⟨b, rfl, o4.ret s1 _ to_bl⟩
  · obtain ⟨z, H', I', rz, b, rfl, q⟩ := q
    cases rz
    exact ⟨.bl b, H', I', rfl, q⟩
end
end
end DL
end
section
/-! enumerate of a list; what is gone over -/
namespace DL
open PySem PySem.Spec PyProof.Rows L2
/-! ### as data -/
section
variable {K : PySem.W.Frag} {μ : Mu} {ν : List Addr} {H : Hp} {st : Sto}
theorem enumD_len {xs : List D} : (enumD xs).length = xs.length := by unfold enumD; rw [List.length_map, List.length_zipIdx]
theorem enumD_get {xs : List D} {i : Nat} {d : D} (h : xs[i]? = some d) : (enumD xs)[i]? = some (.tup [.int (i : Nat), d]) := by
  unfold enumD
  rw [List.getElem?_map, List.getElem?_zipIdx, h]
  simp
theorem rep_pair {ν' : List Addr} {μ' : Mu} {H' : Hp} {x : V} {d : D} {T : Addr} {i : Nat} {st' : Sto} (s : StoOk K μ' ν' H' st') (hx : Rep K μ' (hid μ' ν' H') d x) (hT : H' T = none) :
    Rep K μ' (hid μ' ν' (upd H' T (.tup [.int (i : Nat), x]))) (.tup [.int (i : Nat), d]) (.ref T) := rep_tup s hT (by show 2 ≤ sizeLine; decide) (.cons to_int (.one hx))
theorem gives_enum {a : Addr} {vs : List V} {xs : List D} (h : SqL K (hid μ ν H) a vs) (r : Reps K μ (hid μ ν H) xs vs) : Gives K ν μ H (Ite K a) (enumD xs) where
  go := fun i ν' μ' H' e hi => by
    rw [enumD_len] at hi
    obtain ⟨v, h1, h2⟩ := r.get (List.getElem?_eq_getElem hi)
    exact ⟨vs, v, seen_sqL h e, h1⟩
  stop := fun ν' μ' H' e => ⟨vs, seen_sqL h e, by rw [enumD_len, r.len]; exact Nat.le_refl _⟩
  yld := fun i ν' μ' H' st x H2 e s hi ⟨T, v, e1, nT, e2, q⟩ => by
    subst e1; subst e2
    obtain ⟨d, h1, h2⟩ := r.get' (q vs (seen_sqL h e))
    exact ⟨_, enumD_get h1, s.ext_new nT, s.new nT, rep_pair s (Rep.mono e.mu e.same d v h2) nT⟩
theorem zip_get {xs ys : List D} {i : Nat} {d e : D} (h : xs[i]? = some d) (g : ys[i]? = some e) : ((xs.zip ys).map fun p => D.tup [p.1, p.2])[i]? = some (.tup [d, e]) := by
  rw [List.getElem?_map, List.getElem?_zip_eq_some (z := (d, e)) |>.mpr ⟨h, g⟩]
  rfl
end
section
variable {X : Cx} {E : XK}
/-- the iterated thing may be a list or a tuple -/
theorem pi_or {tg it : Expr} {t t' : TI} (h : PI X tg it t) (h' : PI X tg it t') : PI X tg it (fun σ H R => t σ H R ∨ t' σ H R) := ⟨fun pins s σ H R I q => q.elim (h.run pins s σ H R I) (h'.run pins s σ H R I)⟩
def enD (ds : List D) : M (List D) := fun st => match ds with
  | [.lst xs] => some (.ok (enumD xs) st)
  | [.fl xs] => some (.ok (enumD xs) st)
  | _ => none
def iEn (f : En → M (List D)) : ItF := fun δ => (f δ).bind enD
theorem di_enum {e : Expr} {f : En → M (List D)} {p pos tpos : Pos} {elts : List Expr} {kk : Nat} (hg : Gl X "enumerate") (hm : X.mg "enumerate" = none) (ha : DA X E [e] f) (hs : starEach [e] X.env = [(false, eval e X.env)] := by rfl) :
    DI X E (.Tuple elts kk tpos) (.Call (.Name "enumerate" p) [e] [] pos) (iEn f) := pi_imp (pi_enum hg hm ha hs) fun σ H Q ⟨μ, ν, δ, st, S, o⟩ => by
  refine ⟨μ, ν, δ, st, S, o.fst.imp fun ds st1 μ1 H1 e1 s1 o1 ws hv => ?_⟩
  unfold enD at o1
  split at o1
  · obtain ⟨v, rfl, h⟩ := reps_one hv
    unfold Rep at h
    obtain ⟨a, us, rfl, h2, h3, h4⟩ := h
    exact ⟨a, us, rfl, .inl (.inl (hid_some h2).1), o1.now s1 _ (gives_enum (.inl (.inl h2)) h4)⟩
  · obtain ⟨v, rfl, h⟩ := reps_one hv
    unfold Rep at h
    obtain ⟨a, us, rfl, h2, h3, h4⟩ := h
    exact ⟨a, us, rfl, hid_sub.seq h2, o1.now s1 _ (gives_enum h2 h4)⟩
  · exact o1.elim
/-- for x in e, e a list or a tuple -/
def iSq (f : EF) : ItF := fun δ => (f δ).bind seqD
theorem di_seq {tg e : Expr} {f : EF} (h : DE X E e f) : DI X E tg e (iSq f) := pi_imp (pi_or (pi_list h) (pi_tup h)) fun σ H Q ⟨μ, ν, δ, st, S, o⟩ => by
  have o1 := o.fst
  by_cases hq : ∃ xs st', f δ st = some (.ok (.tup xs) st')
  · obtain ⟨xs0, st0, hq⟩ := hq
    refine .inr ⟨μ, ν, δ, st, S, ?_⟩
    rw [hq] at o1 ⊢
    intro μ' H' e1 s1 v hv
    have o2 := o1 μ' H' e1 s1
    unfold Rep at hv
    obtain ⟨a, ws, rfl, h2, h3, h4⟩ := hv
    exact ⟨a, rfl, ⟨ws, sqT_same hid_sub h2⟩, o2.go rfl .refl s1 _ (gives_tup h2 h4)⟩
  · refine .inl ⟨μ, ν, δ, st, S, ?_⟩
    cases e : f δ st with
    | none => rw [e] at o1; exact o1
    | some r =>
      rw [e] at o1
      cases r with
      | er C fs st' => exact o1
      | ok d st' =>
        intro μ' H' e1 s1 v hv
        have o2 := o1 μ' H' e1 s1
        unfold seqD at o2
        dsimp only at o2
        split at o2
        · unfold Rep at hv
          obtain ⟨a, ws, rfl, h2, h3, h4⟩ := hv
          exact ⟨a, rfl, ⟨ws, .inl (.inl (hid_some h2).1)⟩, o2.now s1 _ (gives_list (.inl (.inl h2)) h4)⟩
        · unfold Rep at hv
          obtain ⟨a, ws, rfl, h2, h3, h4⟩ := hv
          exact ⟨a, rfl, ⟨ws, hid_sub.seq h2⟩, o2.now s1 _ (gives_list h2 h4)⟩
        · exact absurd ⟨_, _, e⟩ hq
        · exact o2.elim
end
end DL
end
section
namespace DL
open PySem PySem.Spec PyProof.Rows L2
section
variable {X : Cx} {E : XK} {pos : Pos}
/-! ### a choice between two rules -/
theorem de_or2 {e : Expr} {f f1 f2 : EF} (h1 : DE X E e f1) (h2 : DE X E e f2) (h : ∀ δ st, f δ st = f1 δ st ∨ f δ st = f2 δ st) : DE X E e f := ⟨fun pins s σ H Q I ⟨μ, ν, δ, st, S, o⟩ => by
  rcases h δ st with q | q
  · rw [q] at o; exact h1.run pins s σ H Q I ⟨μ, ν, δ, st, S, o⟩
  · rw [q] at o; exact h2.run pins s σ H Q I ⟨μ, ν, δ, st, S, o⟩⟩
theorem od_or2 {f : Value → Value → Sem Value} {r r1 r2 : D → D → M D} (h1 : OpR X f (rD2 X.K E r1)) (h2 : OpR X f (rD2 X.K E r2)) (h : ∀ x y st, r x y st = r1 x y st ∨ r x y st = r2 x y st) : OpR X f (rD2 X.K E r) := fun pins s σ H x y v u Q I rx ry ⟨μ, ν, dx, dy, st, S, hx, hy, o⟩ => by
  rcases h dx dy st with q | q
  · rw [q] at o; exact h1 pins s σ H x y v u Q I rx ry ⟨μ, ν, dx, dy, st, S, hx, hy, o⟩
  · rw [q] at o; exact h2 pins s σ H x y v u Q I rx ry ⟨μ, ν, dx, dy, st, S, hx, hy, o⟩
/-! ### slices -/
def eNoP : En → M (Option Int) := fun _ => M.pure none
def intO (d : D) : M (Option Int) := fun st => match d with
  | .int i => some (.ok (some i) st)
  | _ => none
def eP (f : EF) : En → M (Option Int) := fun δ => (f δ).bind intO
def tDo (K : PySem.W.Frag) (E : XK) (f : En → M (Option Int)) : TO := fun σ H Q => ∃ μ ν δ st, Sit K μ ν δ st σ H ∧ Out K ν E μ H (f δ st) fun b st' μ' H' => Q b H'
abbrev DP (X : Cx) (E : XK) (e : Option Expr) (f : En → M (Option Int)) : Prop := PO X e (tDo X.K E f)
theorem po_imp {e : Option Expr} {t t' : TO} (h : PO X e t) (i : ∀ σ H Q, t' σ H Q → t σ H Q) : PO X e t' := ⟨fun pins s σ H Q I q => h.run pins s σ H Q I (i _ _ _ q)⟩
theorem dp_none : DP X E none eNoP := po_imp po_none fun σ H Q ⟨μ, ν, δ, st, S, o⟩ => o.ret S.sto
theorem dp_some {e : Expr} {f : EF} (h : DE X E e f) : DP X E (some e) (eP f) := po_imp (po_some h) fun σ H Q ⟨μ, ν, δ, st, S, o⟩ => by
  refine ⟨μ, ν, δ, st, S, o.fst.imp fun d st1 μ1 H1 e1 s1 o1 v hv => ?_⟩
  unfold intO at o1
  split at o1
  · exact ⟨_, rep_int hv, o1.now s1⟩
  · exact o1.elim
def cutD (xs : List D) (lo hi : Option Int) : List D := (xs.drop (HT.sIx xs.length 0 lo)).take (HT.sIx xs.length xs.length hi - HT.sIx xs.length 0 lo)
theorem cut_rep {K : PySem.W.Frag} {μ : Mu} {G : Hp} {xs : List D} {vs : List V} {lo hi : Option Int} (h : Reps K μ G xs vs) : Reps K μ G (cutD xs lo hi) (cutV vs lo hi) := by
  unfold cutD cutV
  rw [← h.len]
  exact (h.drop _).take _
theorem cut_len {xs : List D} {lo hi : Option Int} : (cutD xs lo hi).length ≤ xs.length := by
  unfold cutD
  rw [List.length_take, List.length_drop]
  omega
def slD (x : D) (lo hi : Option Int) : M D := fun st => match asL st x with
  | some xs => some (.ok (.lst (cutD xs lo hi)) st)
  | none => none
def slN (x : D) (lo hi : Option Int) : M D := fun st => match asL st x with
  | some xs => some (.ok (.obj st.length) (st ++ [.lst (cutD xs lo hi)]))
  | none => none
def eSlice (r : D → Option Int → Option Int → M D) (fe : EF) (fl fh : En → M (Option Int)) : EF := fun δ => (fe δ).bind fun x => (fl δ).bind fun l => (fh δ).bind fun h => r x l h
theorem tD_sl {K : PySem.W.Frag} {r : D → Option Int → Option Int → M D} {t : V → Option Int → Option Int → Hp → VK → Prop} {fe : EF} {fl fh : En → M (Option Int)} {σ : L2.St} {H : Hp} {Q : VK}
    (ht : ∀ {μ ν d st v H lo hi} {Q : VK}, StoOk K μ ν H st → Rep K μ (hid μ ν H) d v → Out K ν E μ H (r d lo hi st) (fun d st' μ' H' => ∀ v, Rep K μ' (hid μ' ν H') d v → Q v H') → t v lo hi H Q)
    (h : tD K E (eSlice r fe fl fh) σ H Q) : tSl t (tD K E fe) (tDo K E fl) (tDo K E fh) σ H Q := by
  obtain ⟨μ, ν, δ, st, S, o⟩ := h
  refine ⟨μ, ν, δ, st, S, o.fst.imp fun x st1 μ1 H1 e1 s1 o1 v hv => ?_⟩
  refine ⟨μ1, ν, δ, st1, S.ext e1 s1, o1.fst.imp fun lo st2 μ2 H2 e2 s2 o2 => ?_⟩
  refine ⟨μ2, ν, δ, st2, (S.ext e1 s1).ext e2 s2, o2.fst.imp fun hi st3 μ3 H3 e3 s3 o3 => ?_⟩
  exact ht s3 ((hv.ext e2).ext e3) o3
theorem de_slice {e : Expr} {lo hi : Option Expr} {p2 : Pos} {fe : EF} {fl fh : En → M (Option Int)} (he : DE X E e fe) (hl : DP X E lo fl) (hh : DP X E hi fh) : DE X E (.Subscript e (.Slice lo hi none p2) pos) (eSlice slD fe fl fh) :=
  pe_imp (pe_slice sl_list he hl hh) fun σ H Q h => tD_sl (fun S r o => by
    unfold slD at o
    split at o
    · rename_i xs hx
      obtain ⟨a, vs, e1, e2, e3, e4⟩ := asL_rep S r hx
      exact ⟨a, vs, e1, e2, fun p hp => o.go rfl (S.ext_new hp) (S.new hp) _ (rep_lst S hp (Nat.le_trans cut_len e3) (cut_rep e4))⟩
    · exact o.elim) h
theorem de_sliceN {e : Expr} {lo hi : Option Expr} {p2 : Pos} {fe : EF} {fl fh : En → M (Option Int)} (he : DE X E e fe) (hl : DP X E lo fl) (hh : DP X E hi fh) : DE X E (.Subscript e (.Slice lo hi none p2) pos) (eSlice slN fe fl fh) :=
  pe_imp (pe_slice sl_list he hl hh) fun σ H Q h => tD_sl (fun S r o => by
    unfold slN at o
    split at o
    · rename_i xs hx
      obtain ⟨a, vs, e1, e2, e3, e4⟩ := asL_rep S r hx
      exact ⟨a, vs, e1, e2, fun p hp => let ⟨s1, s2, s3⟩ := sto_lst S hp (Nat.le_trans cut_len e3) (cut_rep e4); o.go rfl s2 s1 _ s3⟩
    · exact o.elim) h
/-! ### xs.append(e) -/
def appD (o d : D) : M D := fun st => match o with
  | .obj i => match st[i]? with
    | some (.lst xs) => if xs.length < sizeLine then some (.ok .non (st.set i (.lst (xs ++ [d])))) else none
    | _ => none
  | _ => none
/-- a list of the store -/
def isLO (o : D) : M Unit := fun st => match o with
  | .obj i => match st[i]? with
    | some (.lst xs) => some (.ok () st)
    | _ => none
  | _ => none
def eApp (fo fe : EF) : EF := fun δ => (fo δ).bind fun o => (isLO o).bind fun _ => (fe δ).bind fun d => appD o d
theorem de_append {o e : Expr} {apos : Pos} {fo fe : EF} (ho : DE X E o fo) (he : DE X E e fe) (hbase : attributeBase o "append" X.env (eval o X.env) = eval o X.env := by rfl)
    (hfew : ((backTo pos (starEach (e :: []) X.env)).all (fun x => !x.1) && (backToKw pos (keywordEach [] X.env)).all (fun x => x.1.isSome)
      && decide ((e :: []).length + ([] : List Keyword).length + (if ([] : List Keyword).isEmpty then 0 else 1) < 30)) = true := by rfl)
    (hline : (apos.endLine == pos.line) = true := by rfl) (hs : starEach (e :: []) X.env = (false, eval e X.env) :: starEach [] X.env := by rfl) (hplain : (backTo pos (starEach [] X.env)).any (·.1) = false := by rfl) :
    DE X E (.Call (.Attribute o "append" apos) [e] [] pos) (eApp fo fe) :=
  pe_imp (pe_bm PySem.F.plainAttrs_list PySem.F.slot_list_append PySem.F.type_list_append mt_append ho (pa_cons he pa_nil hs) hbase hfew hline hs hplain) fun σ H Q ⟨μ, ν, δ, st, S, o⟩ => by
    refine ⟨μ, ν, δ, st, S, o.fst.imp fun x st1 μ1 H1 e1 s1 o1 v hv => ?_⟩
    have o2 := o1.fst
    unfold isLO at o2
    split at o2
    · rename_i i
      split at o2
      · rename_i xs hc
        obtain ⟨⟨a, vs, h1, h2, h3, h4⟩, hav⟩ := s1.obj hv hc
        refine ⟨by rw [hav a h1]; exact .inl ⟨rfl, vs, .inl (.inl h2)⟩, ?_⟩
        have o3 := o2.now s1
        refine ⟨μ1, ν, δ, st1, S.ext e1 s1, o3.fst.imp fun d st2 μ2 H2 e2 s2 o4 w hw => ?_⟩
        unfold appD at o4
        dsimp only at o4
        split at o4
        · rename_i ys hc2
          split at o4
          · rename_i hl
            obtain ⟨⟨a2, vs2, g1, g2, g3, g4⟩, hav2⟩ := s2.obj (hv.ext e2) hc2
            refine ⟨a2, vs2, w, hav2 a2 g1, rfl, g2, by rw [← g4.len]; exact hl, ?_⟩
            have e3 : Ext ν μ2 H2 μ2 (upd H2 a2 (.lst (vs2 ++ [w]))) := (s2.put (c := .dead) g1 trivial).2
            have P := s2.put (o := .lst (vs2 ++ [w])) (c := .lst (ys ++ [d])) g1 ⟨a2, _, g1, upd_same, by rw [List.length_append, List.length_singleton]; omega, (g4.append (.one hw)).ext e3⟩
            exact o4.go rfl P.2 P.1 _ to_non
          · exact o4.elim
        · exact o4.elim
      · exact o2.elim
    · exact o2.elim
/-! ### a list leaves the store: from here on it stays as it is -/
def mvD (d : D) : M D := fun st => match d with
  | .obj i => match st[i]? with
    | some (.lst xs) => some (.ok (.lst xs) (st.set i .dead))
    | _ => none
  | d => some (.ok d st)
def eMv (f : EF) : EF := fun δ => (f δ).bind mvD
theorem free_at {K : PySem.W.Frag} {μ : Mu} {ν : List Addr} {H : Hp} {st : Sto} (S : StoOk K μ ν H st) {i : Nat} {a : Addr} (h : μ[i]? = some (some a)) :
    Ext ν μ H (μ.set i none) H ∧ StoOk K (μ.set i none) ν H (st.set i .dead) ∧ some a ∉ μ.set i none := by
  have hl : i < μ.length := (List.getElem?_eq_some_iff.mp h).1
  have back : ∀ (j : Nat) (b : Addr), (μ.set i none)[j]? = some (some b) → j ≠ i ∧ μ[j]? = some (some b) := fun j b e => by
    by_cases hj : j = i
    · subst hj
      rw [List.getElem?_set_self hl] at e
      cases e
    · rw [List.getElem?_set_ne (fun z => hj z.symm)] at e
      exact ⟨hj, e⟩
  have inside : ∀ b, some b ∈ μ.set i none → some b ∈ μ := fun b hb => by
    obtain ⟨j, hj⟩ := List.mem_iff_getElem?.mp hb
    exact mem_of_get (back j b hj).2
  have E1 : Ext ν μ H (μ.set i none) H := ⟨⟨by rw [List.length_set]; exact Nat.le_refl _, fun j b _ e => (back j b e).2⟩, fun b o e => by
    obtain ⟨e1, e2, e3⟩ := hid_some e
    rw [hid_of (fun z => e2 (inside b z)) e3]
    exact e1, fun _ _ => rfl⟩
  refine ⟨E1, ⟨by rw [List.length_set, List.length_set]; exact S.len, fun j l b h1 h2 => S.inj j l b (back j b h1).2 (back l b h2).2, fun b hb => S.live b (inside b hb), fun b hb => ⟨(S.out b hb).1, fun z => (S.out b hb).2 (inside b z)⟩, fun j c hc => ?_⟩, fun z => ?_⟩
  · by_cases hj : j = i
    · subst hj
      rw [List.getElem?_set_self (by rw [← S.len]; exact hl)] at hc
      cases hc
      trivial
    · rw [List.getElem?_set_ne (fun z => hj z.symm)] at hc
      refine (S.cell j c hc).stay E1 (S.lt hc) fun b hb => ⟨?_, rfl⟩
      rw [List.getElem?_set_ne (fun z => hj z.symm)]
      exact hb
  · obtain ⟨j, hj⟩ := List.mem_iff_getElem?.mp z
    obtain ⟨n, e⟩ := back j a hj
    exact n (S.inj j i a e h)
theorem de_mv {e : Expr} {f : EF} (h : DE X E e f) : DE X E e (eMv f) := pe_imp h fun σ H Q ⟨μ, ν, δ, st, S, o⟩ => by
  refine ⟨μ, ν, δ, st, S, o.fst.imp fun d st1 μ1 H1 e1 s1 o1 v hv => ?_⟩
  unfold mvD at o1
  split at o1
  · rename_i i
    split at o1
    · rename_i xs hc
      obtain ⟨⟨a, vs, h1, h2, h3, h4⟩, hav⟩ := s1.obj hv hc
      obtain ⟨e2, s2, na⟩ := free_at s1 h1
      have out : a ∉ ν := fun z => (s1.out a z).2 (mem_of_get h1)
      refine o1.go rfl e2 s2 v ?_
      unfold Rep
      exact ⟨a, vs, hav a h1, by rw [hid_of na out]; exact h2, h3, h4.ext e2⟩
    · exact o1.elim
  · exact o1.now s1 v hv
/-! ### x in xs, xs data -/
def inD (x y : D) : M D := fun st => match datD st 8 x, datD st 8 y with
  | some a, some (.list ys) => some (.ok (.bl (ys.any fun z => PyData.eqv z a)) st)
  | _, _ => none
def ninD (x y : D) : M D := fun st => match datD st 8 x, datD st 8 y with
  | some a, some (.list ys) => some (.ok (.bl (!ys.any fun z => PyData.eqv z a)) st)
  | _, _ => none
theorem od_in (hu : X.A.units + 65 < cLine) : OpR X (compareOp .In) (rD2 X.K E inD) := opR_imp (op_inD hu) fun x y H Q ⟨μ, ν, dx, dy, st, S, hx, hy, o⟩ => by
  unfold inD at o
  split at o
  · rename_i a ys ha hb
    have p := dat_rep S 8 dx x a hx ha
    have q := dat_rep S 8 dy y _ hy hb
    exact ⟨a, ys, p.dp, q.dp, shaped_of p, shaped_of q, o.now S _ to_bl⟩
  · exact o.elim
theorem od_nin (hu : X.A.units + 65 < cLine) : OpR X (compareOp .NotIn) (rD2 X.K E ninD) := opR_imp (op_notInD hu) fun x y H Q ⟨μ, ν, dx, dy, st, S, hx, hy, o⟩ => by
  unfold ninD at o
  split at o
  · rename_i a ys ha hb
    have p := dat_rep S 8 dx x a hx ha
    have q := dat_rep S 8 dy y _ hy hb
    exact ⟨a, ys, p.dp, q.dp, shaped_of p, shaped_of q, o.now S _ to_bl⟩
  · exact o.elim
end
/-! ### a part of a loop whose own names and places are forgotten -/
def keepD (keep : List Nat) (δ : En) : En := (List.range δ.length).map fun i => if i ∈ keep then (match δ[i]? with | some o => o | none => none) else none
/-- forget the names -/
def unsetAll (δ : En) : List Nat → En
  | [] => δ
  | i :: r => (unsetAll δ r).set i none
def belowO (n : Nat) : Option D → Bool
  | none => true
  | some d => belowD n d
def belowE (n : Nat) (δ : En) : Bool := δ.all (belowO n)
noncomputable def sScope (drop : List Nat) (f : SF) : SF := fun δ st => open Classical in match f δ st with
  | some (.ok (.nx δ') st1) => if TrOk st.length st st1 ∧ belowE st.length (unsetAll δ' drop) = true then some (.ok (.nx (unsetAll δ' drop)) (st1.take st.length)) else none
  | some (.ok (.ct δ') st1) => if TrOk st.length st st1 ∧ belowE st.length (unsetAll δ' drop) = true then some (.ok (.ct (unsetAll δ' drop)) (st1.take st.length)) else none
  | r => r
section
variable {K : PySem.W.Frag} {μ μ' : Mu} {ν : List Addr} {H H' : Hp} {st st1 : Sto} {E : XK} {δ : En} {σ : L2.St}
theorem simE_unset {G : Hp} (h : SimE K μ G δ σ) : ∀ l : List Nat, SimE K μ G (unsetAll δ l) σ
  | [] => h
  | i :: r => (simE_unset h r).unset
theorem simE_below {G : Hp} {n : Nat} (hn : n ≤ μ.length) : ∀ {δ : En} {σ : L2.St}, belowE n δ = true → SimE K μ G δ σ → SimE K (μ.take n) G δ σ
  | [], σ, _, h => by unfold SimE at h ⊢; exact h
  | none :: δ, σ, b, h => by
    unfold SimE at h ⊢
    unfold belowE at b
    rw [List.all_cons, Bool.and_eq_true] at b
    obtain ⟨v, r, h1, h2⟩ := h
    exact ⟨v, r, h1, simE_below hn b.2 h2⟩
  | some d :: δ, σ, b, h => by
    unfold SimE at h ⊢
    unfold belowE at b
    rw [List.all_cons, Bool.and_eq_true] at b
    obtain ⟨v, r, h1, h2, h3⟩ := h
    exact ⟨v, r, h1, below_rep hn d v b.1 h2, simE_below hn b.2 h3⟩
theorem scope_out {T : Ends} {f : SF} {drop : List Nat} (S : StoOk K μ ν H st) (o : Out K ν E μ H (sScope drop f δ st) fun fl st' μ' H' => endsD K ν T fl μ' H') : Out K ν E μ H (f δ st) fun fl st' μ' H' => endsD K ν T fl μ' H' := by
  unfold sScope at o
  cases e : f δ st with
  | none => rw [e] at o; exact o
  | some r =>
    rw [e] at o
    cases r with
    | er C fs st1 => exact o
    | ok fl st1 =>
      have key : ∀ (δ' : En) (R : L2.St → Hp → Prop), (TrOk st.length st st1 ∧ belowE st.length (unsetAll δ' drop) = true) → (∀ μ' H', Ext ν μ H μ' H' → StoOk K μ' ν H' (st1.take st.length) → ∀ σ, SimE K μ' (hid μ' ν H') (unsetAll δ' drop) σ → R σ H') →
          ∀ μ' H', Ext ν μ H μ' H' → StoOk K μ' ν H' st1 → ∀ σ, SimE K μ' (hid μ' ν H') δ' σ → R σ H' := fun δ' R t q μ' H' e1 s1 σ hσ => by
        have hn : st.length ≤ μ'.length := by rw [s1.len]; exact t.1.1
        refine q _ H' (ext_take e1 S.len) (sto_take S e1 s1 rfl t.1) σ ?_
        exact (simE_below hn t.2 (simE_unset hσ drop)).mono .refl hid_take
      cases fl with
      | rt d => exact o
      | bk δ' => exact o
      | nx δ' =>
        dsimp only at o
        split at o
        · rename_i t
          exact key δ' T.nx t o
        · exact o.elim
      | ct δ' =>
        dsimp only at o
        split at o
        · rename_i t
          exact key δ' T.ct t o
        · exact o.elim
end
theorem dss_scope {X : Cx} {E : XK} {s : List Stmt} {f : SF} {drop : List Nat} (h : DSs X E s f) : DSs X E s (sScope drop f) := pss_imp h fun T σ H ⟨μ, ν, δ, st, S, o⟩ => ⟨μ, ν, δ, st, S, scope_out S.sto o⟩
theorem ds_scope {X : Cx} {E : XK} {s : Stmt} {f : SF} {drop : List Nat} (h : DSt X E s f) : DSt X E s (sScope drop f) := ps_imp h fun T σ H ⟨μ, ν, δ, st, S, o⟩ => ⟨μ, ν, δ, st, S, scope_out S.sto o⟩

/-! ### a def that hands back what it made in the store -/
def callN (p m : Nat) (f : SF) (ds : List D) : M D := fun st => if ds.length = p then (match f (startD m ds) st with
  | some (.ok (.rt d) st1) => some (.ok d st1)
  | some (.ok (.nx _) st1) => some (.ok .non st1)
  | some (.er C fs st1) => some (.er C fs st1)
  | _ => none) else none
theorem def_okN {P : Program} {w : World} {K : PySem.W.Frag} {mg : Str → Option Value} {base : Heap} {x qual : Str} {s : Stmt} {f : Addr} {fd : FuncData} {N ps : List Str} {k : Nat} {b : SF} (F : Fun K x qual s f fd) (S : FnScope N ps (defScope s))
    (hbody : ∀ (cdv : Value) (A : Around) (outer : List Env) (s0 : Shared) (H : Hp) (E : XK), Room k (A.deeper (envOfC qual (defScope s) s0.heap.objs.size f cdv)) →
      DSs (cxOf (L2.CX P w) P w K mg base N qual (defScope s) f cdv A outer s0 H E) E (defBody s) b) : FnOk P w K mg base (L2.CX P w) (k + 1) f fd ps (spD K (callN ps.length N.length b)) := by
  refine F.okX S (fun vs H Q E h => ?_) (fun cdv A outer s0 H vs Q E hr h => ⟨_, hbody cdv A outer s0 H E hr, ?_⟩)
  · obtain ⟨μ, ν, ds, st, S, r, o⟩ := h
    unfold callN at o
    split at o
    · rw [← r.len]; assumption
    · exact o.elim
  · obtain ⟨μ, ν, ds, st, S, r, o⟩ := h
    unfold callN at o
    split at o
    case isFalse => exact o.elim
    refine ⟨μ, ν, startD N.length ds, st, ⟨S, ?_⟩, ?_⟩
    · unfold startD L2.start
      rw [r.len]
      exact simE_start _ r
    · cases e : b (startD N.length ds) st with
      | none => rw [e] at o; exact o.elim
      | some res =>
        rw [e] at o
        cases res with
        | er C fs st1 => exact o
        | ok fl st1 =>
          cases fl with
          | rt d => exact o
          | nx δ => exact fun μ' H' e1 s1 σ' _ => o μ' H' e1 s1 _ to_non
          | bk δ => exact o.elim
          | ct δ => exact o.elim
/-! ### the law's end -/
def spLaw (K : PySem.W.Frag) : Sp := fun vs H Q _ => ∃ (a : Addr) (ns : List Int), vs = [.ref a] ∧ SqL K H a (ns.map V.int) ∧ ns.length ≤ 63 ∧ ∀ H', Q (.bl true) H'
theorem hid_nil {H : Hp} : hid [] [] H = H := by
  funext a
  unfold hid
  rw [if_neg (by simp)]
theorem law_sp {K : PySem.W.Frag} {g : List D → M D} (h : ∀ ns : List Int, ns.length ≤ 63 → ∃ st, g [.fl (ns.map D.int)] [] = some (.ok (.bl true) st)) : ∀ vs H Q E, spLaw K vs H Q E → spD K g vs H Q E := by
  rintro vs H Q E ⟨a, ns, rfl, hS, hl, q⟩
  obtain ⟨st, e⟩ := h ns hl
  refine ⟨[], [], [.fl (ns.map D.int)], [], ⟨rfl, fun i j a h => by simp at h, fun a h => by simp at h, fun a h => by simp at h, fun i c h => by simp at h⟩, .one ?_, ?_⟩
  · unfold Rep
    rw [hid_nil]
    exact ⟨a, _, rfl, hS, by rw [List.length_map]; exact Nat.le_trans hl (by decide), Reps.ints⟩
  · rw [e]
    intro μ' H' e1 s1 v hv
    rw [rep_bl hv]
    exact q H'
end DL
end
section
namespace DL
open PySem PySem.Spec PyProof.Rows L2
section
variable {X : Cx} {E : XK} {pos : Pos}
theorem units65 {k : Nat} {A : Around} (r : Room k A) : A.units + 65 < cLine := by have := r.un; omega
def negD (d : D) : M D := fun st => match d with
  | .int i => some (.ok (.int (-i)) st)
  | _ => none
def eNeg (f : EF) : EF := fun δ => (f δ).bind negD
theorem de_neg {e : Expr} {f : EF} (h : DE X E e f) : DE X E (.UnaryOp .USub e pos) (eNeg f) := pe_imp (pe_un un_neg h) fun σ H Q ⟨μ, ν, δ, st, S, o⟩ => by
  refine ⟨μ, ν, δ, st, S, o.fst.imp fun d st1 μ1 H1 e1 s1 o1 v hv => ?_⟩
  unfold negD at o1
  split at o1
  · exact ⟨_, rep_int hv, o1.now s1 _ to_int⟩
  · exact o1.elim
theorem ds_doc {x j pos' pos''} : DSt X E (.Expr (.Constant (.str x) j pos') pos'') sNext := ps_imp ps_doc fun T σ H ⟨μ, ν, δ, st, S, o⟩ => o.ret S.sto σ S.env
def sRet0 : SF := fun _ => M.pure (.rt .non)
theorem ds_ret0 : DSt X E (.Return none pos) sRet0 := ps_imp ps_retN fun T σ H ⟨μ, ν, δ, st, S, o⟩ => o.ret S.sto _ to_non
/-- xs * k, a new list of the store -/
def mulN (x y : D) : M D := fun st => match y with
  | .int k => match asM st x with
    | some xs => if -(2 ^ 63) ≤ k ∧ k < 2 ^ 63 ∧ xs.length * k.toNat ≤ sizeLine then some (.ok (.obj st.length) (st ++ [.lst (List.replicate k.toNat xs).flatten])) else none
    | none => none
  | _ => none
theorem od_mulN : OpR X (binaryOp .Mult) (rD2 X.K E mulN) := opR_imp op_rep fun x y H Q ⟨μ, ν, dx, dy, st, S, hx, hy, o⟩ => by
  unfold mulN at o
  split at o
  · split at o
    · rename_i hm
      split at o
      · rename_i hk
        obtain ⟨a, vs, e1, e2, e3, e4⟩ := asM_rep S hx hm
        refine ⟨a, _, vs, e1, rep_int hy, e2, hk.1, hk.2.1, by rw [← e4.len]; exact hk.2.2, fun p hp => ?_⟩
        obtain ⟨s1, s2, s3⟩ := sto_lst S hp (by rw [List.length_flatten, List.map_replicate, List.sum_replicate_nat, Nat.mul_comm]; exact hk.2.2) (reps_rep e4 _)
        exact o.go rfl s2 s1 _ s3
      · exact o.elim
    · exact o.elim
  · exact o.elim
/-- an attribute that is a property of two classes -/
def eOr2 (C : Addr) (fo f1 f2 : EF) : EF := fun δ st => match fo δ st with
  | some (.ok d st') => match asI st' d with
    | some (C', _) => if C' = C then f1 δ st else f2 δ st
    | none => f1 δ st
  | _ => f1 δ st
theorem de_propOr {e : Expr} {C : Addr} {fo f1 f2 : EF} (h1 : DE X E e f1) (h2 : DE X E e f2) : DE X E e (eOr2 C fo f1 f2) := de_or2 h1 h2 fun δ st => by
  unfold eOr2
  split
  · split
    · split
      · exact .inl rfl
      · exact .inr rfl
    · exact .inl rfl
  · exact .inl rfl

/-! ### two fors in one comprehension -/
/-- the inner loop: its own source, target and tests, for each turn of the outer -/
def lc2M (g : TgF) (tt : En → M Bool) (it1 : ItF) (g1 : TgF) (vs1 : List Nat) (tt1 : En → M Bool) (el : EF) (δ : En) : List D → M (List D)
  | [] => M.pure []
  | x :: xs => (g x δ).bind fun δ1 => (tt δ1).bind fun b => if b = true then (it1 δ1).bind fun ys => (lcM g1 tt1 el (wipeD δ1 vs1) ys).bind fun r1 => (lc2M g tt it1 g1 vs1 tt1 el δ xs).bind fun r => M.pure (r1 ++ r) else lc2M g tt it1 g1 vs1 tt1 el δ xs
/-- most: a bound of how many items there can be -/
def eLc2M (most : Nat) (it : ItF) (g : TgF) (vs : List Nat) (tt : En → M Bool) (it1 : ItF) (g1 : TgF) (vs1 : List Nat) (tt1 : En → M Bool) (el : EF) : En → M (List D) := fun δ => (it δ).bind fun xs st => if xs.length * most ≤ sizeLine then noer (lc2M g tt (fun δ1 => (it1 δ1).bind fun ys st => if ys.length ≤ most then some (.ok ys st) else none) g1 vs1 tt1 el (wipeD δ vs) xs) st else none
def eLc2 (most : Nat) (it : ItF) (g : TgF) (vs : List Nat) (tt : En → M Bool) (it1 : ItF) (g1 : TgF) (vs1 : List Nat) (tt1 : En → M Bool) (el : EF) : EF := fun δ => (eLc2M most it g vs tt it1 g1 vs1 tt1 el δ).bind fun r => M.pure (.lst r)
theorem tD_lc2 {K : PySem.W.Frag} {most : Nat} {it it1 : ItF} {g g1 : TgF} {vs vs1 : List Nat} {t t1 : TG} {tt tt1 : En → M Bool} {el : EF} {fin : List D → M D} {σ : L2.St} {H : Hp} {Q : VK} (hg : CG K vs t g) (hg1 : CG K vs1 t1 g1)
    (hfin : ∀ {μ ν H st r ws D} {k : VK}, StoOk K μ ν H st → H D = none → r.length ≤ sizeLine → Reps K μ (hid μ ν H) r ws → Out K ν E μ H (fin r st) (fun d st' μ' H' => ∀ v, Rep K μ' (hid μ' ν H') d v → k v H') → k (.ref D) (upd H D (.lst ws)))
    (h : tD K E (fun δ => (eLc2M most it g vs tt it1 g1 vs1 tt1 el δ).bind fin) σ H Q) : tLc2 (tDI K E it) t (tDb K E0 tt) (tDI K E0 it1) t1 (tDb K E0 tt1) (tD K E0 el) vs vs1 σ H Q := by
  obtain ⟨μ, ν, δ, st, S, o⟩ := h
  generalize hit : (fun δ1 => (it1 δ1).bind fun ys st => if ys.length ≤ most then some (R.ok ys st) else none : ItF) = it2 at o
  have o' : Out K ν E μ H ((it δ).bind (fun xs => M.bind (fun st => if xs.length * most ≤ sizeLine then noer (lc2M g tt it2 g1 vs1 tt1 el (wipeD δ vs) xs) st else none) fin) st) (fun d st' μ' H' => ∀ v, Rep K μ' (hid μ' ν H') d v → Q v H') := by
    have e : ((it δ).bind (fun xs => M.bind (fun st => if xs.length * most ≤ sizeLine then noer (lc2M g tt it2 g1 vs1 tt1 el (wipeD δ vs) xs) st else none) fin) st) = ((eLc2M most it g vs tt it1 g1 vs1 tt1 el δ).bind fin st) := by
      unfold eLc2M M.bind
      rw [← hit]
      dsimp only
      cases it δ st with
      | none => rfl
      | some r => cases r <;> rfl
    rw [e]; exact o
  refine ⟨μ, ν, δ, st, S, o'.fst.imp fun xs st1 μ1 H1 e1 s1 o1 J G Dd hD => ?_⟩
  have S1 := S.ext e1 s1
  have ndν : Dd ∉ ν := (s1.fresh hD).2
  have o2 := o1.fst
  split at o2
  case isFalse => exact o2.elim
  rename_i hxl
  have o2 := o2.noer
  refine ⟨fun i m H' => ∃ μ' st' acc ws, StoOk K μ' ν (rem Dd H') st' ∧ Ext ν μ1 H1 μ' (rem Dd H') ∧ H' Dd = some (.lst ws) ∧ Reps K μ' (hid μ' ν (rem Dd H')) acc ws ∧ m = xs.length - i ∧ i ≤ xs.length ∧ acc.length ≤ i * most ∧
      Out K ν E0 μ' (rem Dd H') (lc2M g tt it2 g1 vs1 tt1 el (wipeD δ vs) (xs.drop i) st') fun r st2 μ2 H2 => Out K ν E μ2 H2 (fin (acc ++ r) st2) fun d st' μ' H' => ∀ v, Rep K μ' (hid μ' ν H') d v → Q v H',
    ⟨_, μ1, st1, [], [], by rw [rem_upd hD]; exact s1, by rw [rem_upd hD]; exact .refl, upd_same, .nil, rfl, Nat.zero_le _, Nat.zero_le _, by rw [rem_upd hD]; exact o2⟩, fun i m H2 hW => ?_⟩
  obtain ⟨μ2, st2, acc, ws, s2, e2, hd, hacc, rfl, hi, hal, o3⟩ := hW
  have U2 := sto_unrem s2 hd ndν
  have E2 : MuExt μ1 μ2 := e2.mu
  have X2 : Same (hid μ1 ν H1) (hid μ2 (Dd :: ν) H2) := by rw [hid_rem]; exact e2.same
  have sn : Seen ν μ1 H1 (Dd :: ν) μ2 H2 := ⟨E2, X2⟩
  by_cases hlt : i < xs.length
  · refine .inr ⟨G.go i _ μ2 H2 sn hlt, _, fun H' q => ⟨xs.length - (i + 1), by omega, q⟩, fun x H4 hy => ?_⟩
    obtain ⟨d, hd1, e4, s4, hx⟩ := G.yld i _ μ2 H2 st2 x H4 sn U2 hlt hy
    rw [List.drop_eq_getElem_cons hlt] at o3
    obtain rfl : xs[i] = d := by rw [List.getElem?_eq_getElem hlt] at hd1; exact Option.some.inj hd1
    have o4 := (Out.ext o3 (ext_rem e4)).fst
    have S4 : Sit K μ2 (Dd :: ν) (wipeD δ vs) st2 (L2.wipe σ vs) H4 := ⟨s4, by
      have := (S1.env.mono E2 X2).ext e4
      exact SimE.wipe this vs⟩
    have hd4 : H4 Dd = some (.lst ws) := by rw [e4.out Dd (List.mem_cons_self)]; exact hd
    have hacc4 : Reps K μ2 (hid μ2 (Dd :: ν) H4) acc ws := by
      have q := hacc
      rw [← hid_rem] at q
      exact q.ext e4
    refine hg.run S4 hx wipe_wipe ((o4.beside (a := Dd) ndν).imp fun δ5 st5 μ5 H5 e5 s5 o5 σ5 hσ5 hw5 => ⟨hw5, ?_⟩)
    refine ⟨μ5, Dd :: ν, δ5, st5, ⟨s5, hσ5⟩, (o5.1.fst.beside (a := Dd) ndν).imp fun b st6 μ6 H6 e6 s6 o6 => ?_⟩
    have e2' : Ext ν μ1 H1 μ6 (rem Dd H6) := ((e2.trans (ext_rem e4)).trans (ext_rem e5)).trans (ext_rem e6)
    have hd6 : H6 Dd = some (.lst ws) := by rw [e6.out Dd (List.mem_cons_self), e5.out Dd (List.mem_cons_self)]; exact hd4
    have hacc6 := (hacc4.ext e5).ext e6
    have o6 := o6.1
    have hnext : (i + 1) * most = i * most + most := Nat.succ_mul i most
    cases b with
    | false =>
      rw [if_neg (by decide)] at o6
      refine (if_neg (by decide)).mpr ?_
      exact ⟨μ6, st6, acc, ws, sto_rem s6 ndν, e2', hd6, by rw [← hid_rem]; exact hacc6, rfl, hlt, by omega, o6⟩
    | true =>
      rw [if_pos rfl] at o6
      refine (if_pos rfl).mpr ?_
      -- the inner source
      have o7a := o6.fst
      have o7b : Out K ν E0 μ6 (rem Dd H6) ((it1 δ5).bind (fun ys st => if ys.length ≤ most then some (R.ok ys st) else none) st6) (fun ys st7 μ7 H7 => Out K ν E0 μ7 H7 (M.bind (lcM g1 tt1 el (wipeD δ5 vs1) ys) (fun r1 => M.bind (lc2M g tt it2 g1 vs1 tt1 el (wipeD δ vs) (xs.drop (i + 1))) fun r => M.pure (r1 ++ r)) st7) fun r st2 μ2 H2 => Out K ν E μ2 H2 (fin (acc ++ r) st2) fun d st' μ' H' => ∀ v, Rep K μ' (hid μ' ν H') d v → Q v H') := by
        have hh : it2 δ5 st6 = ((it1 δ5).bind (fun ys st => if ys.length ≤ most then some (R.ok ys st) else none) st6) := by rw [← hit]
        rw [← hh]
        exact o7a
      have o7 := o7b.fst
      refine ⟨μ6, Dd :: ν, δ5, st6, ⟨s6, hσ5.ext e6⟩, (o7.beside (a := Dd) ndν).imp fun ys st7 μ7 H7 e7 s7 o8 J1 G1 => ?_⟩
      have o8 := o8.1
      split at o8
      case isFalse => exact o8.elim
      rename_i hyl
      have o9 := (o8.now (sto_rem s7 ndν)).fst
      have e27 : Ext ν μ1 H1 μ7 (rem Dd H7) := e2'.trans (ext_rem e7)
      have hd7 : H7 Dd = some (.lst ws) := by rw [e7.out Dd (List.mem_cons_self)]; exact hd6
      have hacc7 := hacc6.ext e7
      refine ⟨fun j k H' => ∃ μ' st' acc' ws', StoOk K μ' ν (rem Dd H') st' ∧ Ext ν μ7 (rem Dd H7) μ' (rem Dd H') ∧ H' Dd = some (.lst ws') ∧ Reps K μ' (hid μ' ν (rem Dd H')) acc' ws' ∧ k = ys.length - j ∧ j ≤ ys.length ∧ acc'.length ≤ i * most + j ∧
          Out K ν E0 μ' (rem Dd H') (lcM g1 tt1 el (wipeD δ5 vs1) (ys.drop j) st') fun r1 st2 μ2 H2 => Out K ν E0 μ2 H2 (lc2M g tt it2 g1 vs1 tt1 el (wipeD δ vs) (xs.drop (i + 1)) st2) fun r st3 μ3 H3 => Out K ν E μ3 H3 (fin (acc' ++ r1 ++ r) st3) fun d st' μ' H' => ∀ v, Rep K μ' (hid μ' ν H') d v → Q v H',
        ⟨_, μ7, st7, acc, ws, sto_rem s7 ndν, .refl, hd7, by rw [← hid_rem]; exact hacc7, rfl, Nat.zero_le _, by omega, ?_⟩, fun j k H8 hW8 => ?_⟩
      · refine o9.imp fun r1 st8 μ8 H8 e8 s8 o10 => ?_
        refine o10.fst.imp fun r st9 μ9 H9 e9 s9 z => ?_
        have z := z.ret s9
        rw [List.append_assoc]
        exact z
      · obtain ⟨μ8, st8, acc8, ws8, s8, e8, hd8, hacc8, rfl, hj, hal8, o10⟩ := hW8
        have U8 := sto_unrem s8 hd8 ndν
        have sn8 : Seen (Dd :: ν) μ7 H7 (Dd :: ν) μ8 H8 := ⟨e8.mu, by rw [hid_rem, hid_rem]; exact e8.same⟩
        by_cases hjl : j < ys.length
        · refine .inr ⟨G1.go j _ μ8 H8 sn8 hjl, _, fun H' q => ⟨ys.length - (j + 1), by omega, q⟩, fun y H9 hy9 => ?_⟩
          obtain ⟨d9, hd9', e9, s9, hx9⟩ := G1.yld j _ μ8 H8 st8 y H9 sn8 U8 hjl hy9
          rw [List.drop_eq_getElem_cons hjl] at o10
          obtain rfl : ys[j] = d9 := by rw [List.getElem?_eq_getElem hjl] at hd9'; exact Option.some.inj hd9'
          have o11 := (Out.ext o10 (ext_rem e9)).fst
          have S9 : Sit K μ8 (Dd :: ν) (wipeD δ5 vs1) st8 (L2.wipe σ5 vs1) H9 := ⟨s9, by
            have q1 : SimE K μ7 (hid μ7 (Dd :: ν) H7) δ5 σ5 := (hσ5.ext e6).ext e7
            have q2 := (q1.mono sn8.mu sn8.same).ext e9
            exact SimE.wipe q2 vs1⟩
          have hd9 : H9 Dd = some (.lst ws8) := by rw [e9.out Dd (List.mem_cons_self)]; exact hd8
          have hacc9 : Reps K μ8 (hid μ8 (Dd :: ν) H9) acc8 ws8 := by
            have q := hacc8
            rw [← hid_rem] at q
            exact q.ext e9
          refine hg1.run S9 hx9 wipe_wipe ((o11.beside (a := Dd) ndν).imp fun δ10 st10 μ10 H10 e10 s10 o12 σ10 hσ10 hw10 => ⟨hw10, ?_⟩)
          refine ⟨μ10, Dd :: ν, δ10, st10, ⟨s10, hσ10⟩, (o12.1.fst.beside (a := Dd) ndν).imp fun b1 st11 μ11 H11 e11 s11 o13 => ?_⟩
          have e8' : Ext ν μ7 (rem Dd H7) μ11 (rem Dd H11) := ((e8.trans (ext_rem e9)).trans (ext_rem e10)).trans (ext_rem e11)
          have hd11 : H11 Dd = some (.lst ws8) := by rw [e11.out Dd (List.mem_cons_self), e10.out Dd (List.mem_cons_self)]; exact hd9
          have hacc11 := (hacc9.ext e10).ext e11
          have o13 := o13.1
          cases b1 with
          | false =>
            rw [if_neg (by decide)] at o13
            refine (if_neg (by decide)).mpr ?_
            exact ⟨μ11, st11, acc8, ws8, sto_rem s11 ndν, e8', hd11, by rw [← hid_rem]; exact hacc11, rfl, hjl, by omega, o13⟩
          | true =>
            rw [if_pos rfl] at o13
            refine (if_pos rfl).mpr ?_
            refine ⟨μ11, Dd :: ν, δ10, st11, ⟨s11, hσ10.ext e11⟩, (o13.fst.beside (a := Dd) ndν).imp fun z st12 μ12 H12 e12 s12 o14 v hv => ?_⟩
            have hd12 : H12 Dd = some (.lst ws8) := by rw [e12.out Dd (List.mem_cons_self)]; exact hd11
            have hacc12 := hacc11.ext e12
            have o14 := o14.1.fst
            have hbig : acc8.length < sizeLine := by
              have h1 : (i + 1) * most ≤ xs.length * most := Nat.mul_le_mul_right most hlt
              omega
            refine ⟨ws8, hd12, by rw [← hacc12.len]; exact hbig, μ12, st12, acc8 ++ [z], ws8 ++ [v], ?_, ?_, upd_same, ?_, rfl, hjl, by rw [List.length_append, List.length_singleton]; omega, ?_⟩
            · rw [rem_upd']; exact sto_rem s12 ndν
            · rw [rem_upd']; exact e8'.trans (ext_rem e12)
            · rw [rem_upd', ← hid_rem]; exact hacc12.append (.one hv)
            · rw [rem_upd']
              refine o14.imp fun r st13 μ13 H13 e13 s13 o15 => ?_
              have q := o15.ret s13
              refine q.imp fun r2 st14 μ14 H14 e14 s14 o16 => ?_
              have e : acc8 ++ [z] ++ r ++ r2 = acc8 ++ (z :: r) ++ r2 := by simp
              rw [e]
              exact o16
        · have hz : j = ys.length := by omega
          subst hz
          rw [List.drop_length] at o10
          refine .inl ⟨G1.stop _ μ8 H8 sn8, ?_⟩
          have o11 := o10.ret s8
          refine ⟨μ8, st8, acc8, ws8, s8, e27.trans e8, hd8, hacc8, rfl, hlt, by omega, ?_⟩
          refine o11.imp fun r st9 μ9 H9 e9 s9 q => ?_
          rw [List.append_nil] at q
          exact q
  · have hz : i = xs.length := by omega
    subst hz
    rw [List.drop_length] at o3
    refine .inl ⟨G.stop _ μ2 H2 sn, ?_⟩
    have o4 := o3.ret s2
    rw [List.append_nil] at o4
    have hrem : rem Dd H2 Dd = none := rem_same
    have q := hfin s2 hrem (by omega) hacc o4
    rw [upd_rem hd] at q
    exact q
def eLc2N (most : Nat) (it : ItF) (g : TgF) (vs : List Nat) (tt : En → M Bool) (it1 : ItF) (g1 : TgF) (vs1 : List Nat) (tt1 : En → M Bool) (el : EF) : EF := fun δ => (eLc2M most it g vs tt it1 g1 vs1 tt1 el δ).bind fun r st => some (.ok (.obj st.length) (st ++ [.lst r]))
theorem tD_eLc2N {K : PySem.W.Frag} {most : Nat} {it it1 : ItF} {g g1 : TgF} {vs vs1 : List Nat} {t t1 : TG} {tt tt1 : En → M Bool} {el : EF} {σ : L2.St} {H : Hp} {Q : VK} (hg : CG K vs t g) (hg1 : CG K vs1 t1 g1) (h : tD K E (eLc2N most it g vs tt it1 g1 vs1 tt1 el) σ H Q) :
    tLc2 (tDI K E it) t (tDb K E0 tt) (tDI K E0 it1) t1 (tDb K E0 tt1) (tD K E0 el) vs vs1 σ H Q :=
  tD_lc2 hg hg1 (fun s hD hl hr o => let ⟨a, b, c⟩ := sto_lst s hD hl hr; (o.go rfl b a) _ c) h
theorem tD_eLc2 {K : PySem.W.Frag} {most : Nat} {it it1 : ItF} {g g1 : TgF} {vs vs1 : List Nat} {t t1 : TG} {tt tt1 : En → M Bool} {el : EF} {σ : L2.St} {H : Hp} {Q : VK} (hg : CG K vs t g) (hg1 : CG K vs1 t1 g1) (h : tD K E (eLc2 most it g vs tt it1 g1 vs1 tt1 el) σ H Q) :
    tLc2 (tDI K E it) t (tDb K E0 tt) (tDI K E0 it1) t1 (tDb K E0 tt1) (tD K E0 el) vs vs1 σ H Q :=
  tD_lc2 hg hg1 (fun s hD hl hr o => (o.go rfl (s.ext_new hD) (s.new hD)) _ (rep_lst s hD hl hr)) h
section
variable {elt tg iter tg1 iter1 : Expr} {ifs ifs1 : List Expr} {scope : Scope} {own : List (Str × Nat)} {vs1 : List Nat} {it it1 : ItF} {g g1 : TgF} {t t1 : TG} {tt tt1 : En → M Bool} {el : EF}
theorem de_lc2 (most : Nat) (hc : X.calm = true) (hN : X.N.Nodup) (hi : DI X E tg iter it) (ok : BlkOk X.N X.env.scope scope own) (hv : ∀ i ∈ vs1, i ∈ own.map (·.2)) (hcg : CG X.K (own.map (·.2)) t g) (hcg1 : CG X.K vs1 t1 g1)
    (hg : ∀ (s : Shared) (H : Hp) (C : Addr) (cl : List (Str × Addr)) (fp : List Addr), PG (X.blk s H scope (compEnvC scope cl C X.env) fp) tg t) (ht : ∀ (s : Shared) (H : Hp) (C : Addr) (cl : List (Str × Addr)) (fp : List Addr), DTs (X.blk s H scope (compEnvC scope cl C X.env) fp) ifs tt)
    (hi1 : ∀ (s : Shared) (H : Hp) (C : Addr) (cl : List (Str × Addr)) (fp : List Addr), DI (X.blk s H scope (compEnvC scope cl C X.env) fp) E0 tg1 iter1 it1)
    (hg1 : ∀ (s : Shared) (H : Hp) (C : Addr) (cl : List (Str × Addr)) (fp : List Addr), PG (X.blk s H scope (compEnvC scope cl C X.env) fp) tg1 t1) (ht1 : ∀ (s : Shared) (H : Hp) (C : Addr) (cl : List (Str × Addr)) (fp : List Addr), DTs (X.blk s H scope (compEnvC scope cl C X.env) fp) ifs1 tt1)
    (he : ∀ (s : Shared) (H : Hp) (C : Addr) (cl : List (Str × Addr)) (fp : List Addr), DE (X.blk s H scope (compEnvC scope cl C X.env) fp) E0 elt el) (hs : ∀ x, foldedSetIterable iter X.env x = pure x := by intro _; rfl) (hs1 : ∀ env x, foldedSetIterable iter1 env x = pure x := by intro _ _; rfl) :
    DE X E (.ListComp elt [⟨tg, iter, ifs, 0⟩, ⟨tg1, iter1, ifs1, 0⟩] scope pos) (eLc2 most it g (own.map (·.2)) tt it1 g1 vs1 tt1 el) := pe_imp (pe_lc2 hc hN hi ok hv hg ht hi1 hg1 ht1 he hs hs1) fun σ H Q h => tD_eLc2 hcg hcg1 h
theorem de_lc2N (most : Nat) (hc : X.calm = true) (hN : X.N.Nodup) (hi : DI X E tg iter it) (ok : BlkOk X.N X.env.scope scope own) (hv : ∀ i ∈ vs1, i ∈ own.map (·.2)) (hcg : CG X.K (own.map (·.2)) t g) (hcg1 : CG X.K vs1 t1 g1)
    (hg : ∀ (s : Shared) (H : Hp) (C : Addr) (cl : List (Str × Addr)) (fp : List Addr), PG (X.blk s H scope (compEnvC scope cl C X.env) fp) tg t) (ht : ∀ (s : Shared) (H : Hp) (C : Addr) (cl : List (Str × Addr)) (fp : List Addr), DTs (X.blk s H scope (compEnvC scope cl C X.env) fp) ifs tt)
    (hi1 : ∀ (s : Shared) (H : Hp) (C : Addr) (cl : List (Str × Addr)) (fp : List Addr), DI (X.blk s H scope (compEnvC scope cl C X.env) fp) E0 tg1 iter1 it1)
    (hg1 : ∀ (s : Shared) (H : Hp) (C : Addr) (cl : List (Str × Addr)) (fp : List Addr), PG (X.blk s H scope (compEnvC scope cl C X.env) fp) tg1 t1) (ht1 : ∀ (s : Shared) (H : Hp) (C : Addr) (cl : List (Str × Addr)) (fp : List Addr), DTs (X.blk s H scope (compEnvC scope cl C X.env) fp) ifs1 tt1)
    (he : ∀ (s : Shared) (H : Hp) (C : Addr) (cl : List (Str × Addr)) (fp : List Addr), DE (X.blk s H scope (compEnvC scope cl C X.env) fp) E0 elt el) (hs : ∀ x, foldedSetIterable iter X.env x = pure x := by intro _; rfl) (hs1 : ∀ env x, foldedSetIterable iter1 env x = pure x := by intro _ _; rfl) :
    DE X E (.ListComp elt [⟨tg, iter, ifs, 0⟩, ⟨tg1, iter1, ifs1, 0⟩] scope pos) (eLc2N most it g (own.map (·.2)) tt it1 g1 vs1 tt1 el) := pe_imp (pe_lc2 hc hN hi ok hv hg ht hi1 hg1 ht1 he hs hs1) fun σ H Q h => tD_eLc2N hcg hcg1 h
end
end
end DL
end
section
namespace DL
open PySem PySem.Spec PyProof.Rows L2
section
variable {X : Cx} {E : XK} {pos : Pos} {k : Nat} {f C : Addr} {fd : FuncData} {ps : List Str} {g : List D → M D}
/-- if o, o of an own class with __bool__ -/
def eTruO (C : Addr) (g : List D → M D) (fo : EF) : En → M Bool := fun δ => (fo δ).bind fun o => (ownM C g o []).bind bD
theorem dt_truO {e : Expr} {fo : EF} (he : DE X E e fo) (hs : PySem.W.findIn X.K (.ref C) "__bool__" = some (some (.ref f))) (hf : PySem.W.isFn X.K (.ref f) = true)
    (F : FnOk X.prog X.w X.K X.mg X.base (L2.CX X.prog X.w) k f fd ps (spD X.K g)) (hr : Room k X.A) (hb : Binds X.K fd ps []) (hx : Passes (L2.CX X.prog X.w) X E)
    (hw : ∀ whole, isTrue e X.env whole = (do let v ← whole; standAt e.pos; holding [v] (truthy v)) := by intro _; rfl) : DT X E e (eTruO C g fo) := ⟨fun pins s σ H Q I ⟨μ, ν, δ, st, S, o⟩ => by
  have h : tD X.K E fo σ H fun x H1 => ∃ μ1 st1 d, StoOk X.K μ1 ν H1 st1 ∧ Rep X.K μ1 (hid μ1 ν H1) d x ∧ Out X.K ν E μ1 H1 ((ownM C g d []).bind bD st1) fun b st' μ' H' => Q b H' := ⟨μ, ν, δ, st, S, o.fst.imp fun d st1 μ1 H1 e1 s1 o1 v hv => ⟨μ1, st1, d, s1, hv, o1⟩⟩
  refine isTrue_plain (thn (he.run pins s σ H _ I h) fun v s1 ⟨x, H1, I1, rx, μ1, st1, d, S1, hd, o1⟩ => ?_) (hw _)
  obtain ⟨a, dd, gs, rfl, ha, o2⟩ := own_rep S1 hd (Out.fst (m := ownM C g d []) (f := bD) o1)
  obtain rfl : v = Value.ref a := rx
  obtain ⟨mA, J, _⟩ := ins_get I1.hok ha
  obtain ⟨od, J, _⟩ := J.look
  obtain ⟨m, hF⟩ := I1.fr
  refine PySem.W.truthy_K hF I1.ok.mod.kin J hs hf (thn (run_at (vs := [.ref a]) (Q := fun z H' => ∃ b, z = .bl b ∧ Q b H') F hr rfl hb hx I1 (.cons rfl .nil) ⟨μ1, ν, [d], st1, S1, .one hd, o2.imp fun d st2 μ2 H2 e2 s2 o3 w hw => ?_⟩) fun r s' q => ?_)
  · obtain ⟨b, rfl, o4⟩ := bD_rep s2 hw o3
    exact ⟨b, rfl, o4⟩
  · obtain ⟨z, H', I', rz, b, rfl, q⟩ := q
    cases rz
    exact ⟨H', I', q⟩⟩
end
end DL
end
section
namespace DL
open PySem PySem.Spec PyProof.Rows L2
section
variable {X : Cx} {E : XK} {pos : Pos}
/-- a list's item by its place, from the front or from the back -/
theorem item_at {P : Program} {w : World} {A : Around} {B : Value → Shared → Prop} {s : Shared} {p : Addr} {ws : List Value} {i : Int} {t : Tok} {j : Nat} {u : Value} {R : Value → Shared → Prop} (L : s.heap.IsList p ws.toArray)
    (hz : ws.length < 2 ^ 62) (hj : ws[j]? = some u) (hi : i = (j : Int) ∨ i + (ws.length : Int) = (j : Int)) (neg : i < 0 ∨ i = (j : Int)) (q : R u s) : wpAny (model P w) A (getItem (.ref p) (.int i t)) R B s := by
  have hjl : j < ws.length := (List.getElem?_eq_some_iff.mp hj).1
  rcases neg with lt | same
  · have back : i + (ws.length : Int) = (j : Int) := hi.elim (fun z => by omega) id
    have place : (i + (ws.toArray.size : Int)).toNat = j := by rw [List.size_toArray, back]; rfl
    exact wpAny_getItem_list_neg L lt (by rw [List.size_toArray]; omega) (by omega) (by rw [place]; simpa using hj) q
  · have place : i.toNat = j := by rw [same]; rfl
    exact wpAny_getItem_list L (by omega) (by omega) (by rw [place]; simpa using hj) q
theorem get_listP : PGet X (rIxL X.K) := fun pins s σ H x y v u Q J rx ry h => by
  obtain ⟨p, cs, i, d, ex, ey, sq, at', q⟩ := h
  subst ex ey
  cases rx
  obtain ⟨tk, rfl⟩ := ry
  obtain ⟨ws, rel, L, small⟩ := J.list sq
  obtain ⟨j, hs, hd, _, low, high⟩ := atI_get at'
  obtain ⟨w, hw, rw'⟩ := rel.get hd
  have same := rel.length
  have big : sizeLine < 2 ^ 62 := by decide
  have pick : (i = (j : Int) ∨ i + (ws.length : Int) = (j : Int)) ∧ (i < 0 ∨ i = (j : Int)) := by
    by_cases n0 : 0 ≤ i
    · have z := (seqIndex_of n0 high).symm.trans hs
      have := Option.some.inj z
      exact ⟨.inl (by omega), .inr (by omega)⟩
    · have z := (seqIndex_neg (by omega) low).symm.trans hs
      have := Option.some.inj z
      exact ⟨.inr (by omega), .inl (by omega)⟩
  exact item_at L.isList (by omega) hw pick.1 pick.2 ⟨d, H, J, rw', q⟩
theorem setD_inv (o i d : D) (st : Sto) : setD o i d st = none ∨ ∃ j k xs n, o = .obj j ∧ i = .int k ∧ st[j]? = some (.lst xs) ∧ ixN xs.length k = some n ∧ setD o i d st = some (.ok () (st.set j (.lst (xs.set n d)))) := by
  unfold setD
  split
  · split
    · rename_i xs hc
      split
      · rename_i n hn
        exact .inr ⟨_, _, xs, n, rfl, rfl, hc, hn, rfl⟩
      · exact .inl rfl
    · exact .inl rfl
  · exact .inl rfl
def getLD (x y : D) : M D := fun st => match y with
  | .int i => match asL st x with
    | some xs => match atI xs i with
      | some d => some (.ok d st)
      | none => none
    | none => none
  | _ => none
def augI (f : Int → Int → Int) (x y : D) : M D := fun st => match x, y with
  | .int a, .int b => some (.ok (.int (f a b)) st)
  | _, _ => none
def sAug (f : Int → Int → Int) (fo fi fv : EF) : SF := fun δ => (fo δ).bind fun o => (fi δ).bind fun i => (getLD o i).bind fun x => (fv δ).bind fun y => (augI f x y).bind fun z => (setD o i z).bind fun _ => M.pure (.nx δ)
abbrev sAugadd (fo fi fv : EF) : SF := sAug (fun i j => i + j) fo fi fv
abbrev sAugsub (fo fi fv : EF) : SF := sAug (fun i j => i - j) fo fi fv
theorem ds_aug {f : Int → Int → Int} {o i e : Expr} {fo fi fv : EF} {op : Operator} {tpos : Pos} (hop : PIp X op (ipI f)) (ho : DE X E o fo) (hi : DE X E i fi) (he : DE X E e fv)
    (ha : ∀ ov iv new, augStore i ov iv new = (do holding [new, ov, iv] (setItem ov iv new); release [new, ov, iv] []; pure .next) := by intros; rfl) : DSt X E (.AugAssign (.Subscript o i tpos) op e pos) (sAug f fo fi fv) :=
  ps_imp (ps_augS ho hi get_listP he hop set_list ha) fun T σ H ⟨μ, ν, δ, st, S, o⟩ => by
    refine ⟨μ, ν, δ, st, S, o.fst.imp fun x st1 μ1 H1 e1 s1 o1 vx hx => ?_⟩
    have S1 := S.ext e1 s1
    refine ⟨μ1, ν, δ, st1, S1, o1.fst.imp fun y st2 μ2 H2 e2 s2 o2 vy hy => ?_⟩
    have S2 := S1.ext e2 s2
    have hx2 := hx.ext e2
    have o3 := o2.fst
    unfold getLD at o3
    split at o3
    · rename_i i
      split at o3
      · rename_i xs h1
        split at o3
        · rename_i d hd
          obtain ⟨a, vs, g1, g2, g3, g4⟩ := asL_rep s2 hx2 h1
          obtain ⟨w, f1, f2⟩ := reps_at g4 hd
          refine ⟨a, vs, _, w, g1, rep_int hy, g2, f1, ?_⟩
          have o3 := o3.now s2
          refine ⟨μ2, ν, δ, st2, S2, o3.fst.imp fun z st3 μ3 H3 e3 s3 o4 vz hz => ?_⟩
          have S3 := S2.ext e3 s3
          have o5 := o4.fst
          have hd3 := f2.ext e3
          have hx3 := hx2.ext e3
          have hy3 := hy.ext e3
          unfold augI at o5
          split at o5
          · rename_i m n _
            refine ⟨m, n, rep_int hd3, rep_int hz, ?_⟩
            have o6 := (o5.now s3).fst
            rcases setD_inv x (D.int i) (D.int (f m n)) st3 with h0 | ⟨jj, kk, xs2, n2, rfl, hk, hc, hn, hr⟩
            · rw [h0] at o6; exact o6.elim
            · cases hk
              rw [hr] at o6
              obtain ⟨⟨a2, vs2, h1', h2, h3, h4⟩, hav⟩ := s3.obj hx3 hc
              refine ⟨a2, vs2, _, n2, hav a2 h1', rep_int hy3, h2, by rw [← h4.len]; exact hn, ?_⟩
              have e4 : Ext ν μ3 H3 μ3 (upd H3 a2 (.lst (vs2.set n2 (.int (f m n))))) := (s3.put (c := .dead) h1' trivial).2
              have P := s3.put (o := .lst (vs2.set n2 (.int (f m n)))) (c := .lst (xs2.set n2 (.int (f m n)))) h1' ⟨a2, _, h1', upd_same, by rw [List.length_set]; exact h3, (h4.set (by simp [Rep]) n2).ext e4⟩
              have q := o6 _ _ P.2 P.1
              exact q.ret P.1 σ (S3.env.ext P.2)
          · exact o5.elim
        · exact o3.elim
      · exact o3.elim
    · exact o3.elim
theorem ds_augadd {o i e : Expr} {fo fi fv : EF} {tpos : Pos} (ho : DE X E o fo) (hi : DE X E i fi) (he : DE X E e fv)
    (ha : ∀ ov iv new, augStore i ov iv new = (do holding [new, ov, iv] (setItem ov iv new); release [new, ov, iv] []; pure .next) := by intros; rfl) : DSt X E (.AugAssign (.Subscript o i tpos) .Add e pos) (sAugadd fo fi fv) := ds_aug ip_add ho hi he ha
theorem ds_augsub {o i e : Expr} {fo fi fv : EF} {tpos : Pos} (ho : DE X E o fo) (hi : DE X E i fi) (he : DE X E e fv)
    (ha : ∀ ov iv new, augStore i ov iv new = (do holding [new, ov, iv] (setItem ov iv new); release [new, ov, iv] []; pure .next) := by intros; rfl) : DSt X E (.AugAssign (.Subscript o i tpos) .Sub e pos) (sAugsub fo fi fv) := ds_aug ip_sub ho hi he ha
end
theorem cx_no {P : Program} {w : World} {outer : List Env} {H : Hp} {s s' : Shared} {u : Value} (z : L2.CX P w outer H s (fun _ _ _ => False) u s') : False := by
  obtain ⟨_, _, _, _, _, _, _, _, _, _, _, _, q⟩ := z
  exact q
theorem kit_rt {K : PySem.W.Frag} {C : Addr} {T : String} (h : PySem.W.subIn K (.ref C) (.type T) = some false) (m : PySem.W.kitMeta T = true := by decide +kernel) : PySem.W.kitOne K (.ref C) (.type T) = some false := by
  unfold PySem.W.kitOne PySem.W.kitCls
  rw [if_neg (by simp)]
  dsimp only
  rw [if_pos m, h]
theorem kit_to {K : PySem.W.Frag} {C : Addr} {T : String} {x : Value} (c : PySem.W.isClsIn K C = true ∨ True) (cl : (PySem.W.clsIn K C).isSome = true) (ty : PySem.W.typeIn K (.ref C) = some (.type "type")) (h : PySem.W.subIn K (.type T) (.ref C) = some false) : PySem.W.kitOne K (.type T) (.ref C) = some false := by
  unfold PySem.W.kitOne PySem.W.kitCls
  rw [if_neg (by simp)]
  dsimp only
  rw [if_pos (by rw [cl, ty]; rfl), h]
theorem kit_oo {K : PySem.W.Frag} {C D : Addr} (ne : D ≠ C) (cl : (PySem.W.clsIn K C).isSome = true) (ty : PySem.W.typeIn K (.ref C) = some (.type "type")) (h : PySem.W.subIn K (.ref D) (.ref C) = some false) : PySem.W.kitOne K (.ref D) (.ref C) = some false := by
  unfold PySem.W.kitOne PySem.W.kitCls
  rw [if_neg (by simpa using ne)]
  dsimp only
  rw [if_pos (by rw [cl, ty]; rfl), h]
end DL
end
section
/-! what hands out new tuples, turn by turn: enumerate and zip over lists and tuples in any mixture -/
namespace DL
open PySem PySem.Spec PyProof.Rows L2
/-- a source: a tuple (true) or a list at a -/
def SqA (K : PySem.W.Frag) (t : Bool) (H : Hp) (a : Addr) (vs : List V) : Prop := match t with
  | true => SqT K H a vs
  | false => SqL K H a vs
def isSq (t : Bool) (h : Heap) (a : Addr) (items : Array Value) : Prop := match t with
  | true => h.IsTuple a items
  | false => h.IsList a items
def itAt (t : Bool) (h : Heap) (it a : Addr) (i : Nat) : Prop := match t with
  | true => h.IsTupleIter it a i
  | false => h.IsListIter it a i
def itNew (t : Bool) (a : Addr) : Obj := match t with
  | true => { cls := .type "tuple_iterator", data := .fields #[.ref a, .int 0 0] }
  | false => { cls := .type "list_iterator", data := .fields #[.ref a, .int 0 0] }
theorem sqA_lay {X : Cx} {pins : List (Addr × Obj)} {σ : L2.St} {H : Hp} {s : Shared} {t : Bool} {a : Addr} {vs : List V} (I : Inv X pins σ H s) (h : SqA X.K t H a vs) : ∃ us : List Value, Vals vs us ∧ isSq t s.heap a us.toArray ∧ vs.length ≤ sizeLine := by
  cases t with
  | true => obtain ⟨us, r, p, z⟩ := I.tuple h; exact ⟨us, r, p, z⟩
  | false => obtain ⟨us, r, p, z⟩ := I.list h; exact ⟨us, r, p.isList, z⟩
theorem sqA_inj {X : Cx} {pins : List (Addr × Obj)} {σ : L2.St} {H : Hp} {s : Shared} {t : Bool} {a : Addr} {vs ws : List V} (I : Inv X pins σ H s) (h : SqA X.K t H a vs) (g : SqA X.K t H a ws) : vs = ws := by
  cases t with
  | true => exact I.tuple_inj h g
  | false => exact I.list_inj h g
theorem itAt_apart {t : Bool} {h : Heap} {it a : Addr} {i : Nat} {items : Array Value} (x : itAt t h it a i) (y : isSq t h a items) : a ≠ it := by
  rintro rfl
  cases t with
  | true =>
    obtain ⟨o, e, c, _⟩ := x
    obtain ⟨o', e', c', _⟩ := y
    rw [e] at e'; cases e'
    rw [c] at c'; simp at c'
  | false =>
    obtain ⟨o, e, c, _⟩ := x
    obtain ⟨o', e', c', _⟩ := y
    rw [e] at e'; cases e'
    rw [c] at c'; simp at c'
theorem itAt_obj {t : Bool} {h : Heap} {it a : Addr} {i : Nat} (x : itAt t h it a i) : ∃ o, h.get? it = some o ∧ ∀ v, o.data ≠ .cell v := by
  cases t with
  | true => obtain ⟨o, e, _, d⟩ := x; exact ⟨o, e, fun v q => by rw [d] at q; cases q⟩
  | false => obtain ⟨o, e, _, d⟩ := x; exact ⟨o, e, fun v q => by rw [d] at q; cases q⟩
theorem itAt_keep {t : Bool} {h h' : Heap} {it a : Addr} {i : Nat} (x : itAt t h it a i) (k : ∀ o, h.get? it = some o → h'.get? it = some o) : itAt t h' it a i := by
  cases t with
  | true => obtain ⟨o, e, r⟩ := x; exact ⟨o, k o e, r⟩
  | false => obtain ⟨o, e, r⟩ := x; exact ⟨o, k o e, r⟩
theorem draws_of {prog : Program} {w : World} {A : Around} (hh : A.handled = none) {t : Bool} {it a : Addr} (ne : a ≠ it) (items : Array Value) : Draws prog w A it [it, a] items.size (fun i v => items[i]? = some v) (fun i h => itAt t h it a i ∧ isSq t h a items) := by
  cases t with
  | true => exact .tuple hh it a ne items
  | false => exact .list hh it a ne items
theorem begins_of (t : Bool) (a : Addr) (items : Array Value) : Begins (.ref a) (itNew t a) fun h => isSq t h a items := by
  cases t with
  | true => exact begins_tuple a items
  | false => exact begins_list a items
theorem itNew_at {t : Bool} {h : Heap} {it a : Addr} (e : h.get? it = some (itNew t a)) : itAt t h it a 0 := by
  cases t with
  | true => exact ⟨_, e, rfl, rfl⟩
  | false => exact ⟨_, e, rfl, rfl⟩

/-! ### from such a thing to what a loop goes over -/
/-- G i H: there is an i-th turn; J i H vs: vs is what its tuple holds; S i H: there is none -/
def itW (G : Nat → Hp → Prop) (J : Nat → Hp → List V → Prop) (S : Nat → Hp → Prop) : It :=
  ⟨G, fun i H v H' => ∃ T vs, v = .ref T ∧ H T = none ∧ H' = upd H T (.tup vs) ∧ J i H vs, S⟩
/-- at a turn: the thing as one that walks -/
structure AtTurn (X : Cx) (H : Hp) (h : Heap) (e : Addr) (fp : List Addr) (tn : Nat → Heap → Prop) (J : Nat → Hp → List V → Prop) (i : Nat) (more : Bool) : Prop where
  ex : ∃ (fw wr : List Addr) (n : Nat) (Pt : Nat → Array Value → Prop) (St : Nat → Heap → Prop) (Mid : Nat → Addr → Heap → Prop), WalksT X.prog X.w X.A e fw wr n Pt St Mid ∧ (∀ b ∈ wr, b ∈ fp) ∧ (if more = true then i < n else i = n) ∧ St i h ∧
    (∀ vals, Pt i vals → ∃ (vs : List V) (us : List Value), J i H vs ∧ vals = us.toArray ∧ Vals vs us ∧ vs.length ≤ sizeLine) ∧ ∀ h', St (i + 1) h' → tn (i + 1) h'
theorem turn_of {P : Program} {w : World} {K : PySem.W.Frag} {elts : List Expr} {kk : Nat} {tpos : Pos} {e : Addr} {fp : List Addr} {tn : Nat → Heap → Prop} {G : Nat → Hp → Prop} {J : Nat → Hp → List V → Prop} {S : Nat → Hp → Prop} (mem : e ∈ fp)
    (obj : ∀ i h, tn i h → ∀ b ∈ fp, ∃ o, h.get? b = some o ∧ ∀ v, o.data ≠ .cell v) (keep : ∀ i h h', tn i h → (∀ b ∈ fp, ∀ o, h.get? b = some o → h'.get? b = some o) → tn i h')
    (go : ∀ (X : Cx), X.prog = P → X.w = w → X.K = K → X.A.handled = none → ∀ i pins (s : Shared) (σ : L2.St) (H : Hp), Inv X pins σ H s → tn i s.heap → G i H → AtTurn X H s.heap e fp tn J i true)
    (stop : ∀ (X : Cx), X.prog = P → X.w = w → X.K = K → X.A.handled = none → ∀ i pins (s : Shared) (σ : L2.St) (H : Hp), Inv X pins σ H s → tn i s.heap → S i H → AtTurn X H s.heap e fp tn J i false)
    (self : ∀ (A : Around) (i : Nat) (s : Shared) (Q E : Value → Shared → Prop), tn i s.heap → Q (.ref e) s → wpAny (model P w) A (pyIter (.ref e)) Q E s) : Turn P w K (.Tuple elts kk tpos) (itW G J S) fp e tn where
  mem := mem
  obj := obj
  keep := keep
  self := self
  item := by
    intro X hP hw hK hc i pins s σ H E I hf st hg
    obtain ⟨fw, wr, n, Pt, St, Mid, W, sub, lt, at_, tell, next⟩ := (go X hP hw hK (I.ok.hd hc) i pins s σ H I st hg).ex
    subst hP hw hK
    rw [if_pos rfl] at lt
    refine W.item i s _ _ lt at_ fun T vals h1 tk hv hT hI hm k1 => ?_
    refine ⟨.ref T, rfl, W.go elts kk tpos i T { s with heap := h1, toks := tk } _ _ hm fun h2 st2 k2 => ?_⟩
    obtain ⟨vs, us, hJ, rfl, rel, small⟩ := tell vals hv
    have lay : IsTup h2 T us.toArray := by
      obtain ⟨o, eo, r⟩ := hI
      exact ⟨o, k2 T o (W.apart i T h1 hm) eo, r⟩
    have new : ObjOk X.prog X.w (upd H T (.tup vs)) h2 T (.tup vs) := ⟨small, us, rel, lay⟩
    have I2 := I.turnedNew (t' := tk) (h' := h2) (ch := wr) (fun b o hb eo => k2 b o hb (k1 b o hb eo)) (fun b hb => hf b (sub b hb)) hT new
    refine ⟨.ref T, _, I2, rfl, ⟨T, vs, rfl, I.hok.fresh hT, rfl, hJ⟩, next h2 st2, fun b hb => ?_⟩
    obtain ⟨o, eo, _⟩ := obj i s.heap st b hb
    have small' : b < T := Nat.lt_of_lt_of_le (Heap.lt_size eo) hT
    rw [upd_ne (Nat.ne_of_lt small')]
    exact (hf b hb).1
  done := by
    intro X hP hw hK hc i pins s σ H E I hf st hg
    obtain ⟨fw, wr, n, Pt, St, Mid, W, sub, eq, at_, _, _⟩ := (stop X hP hw hK (I.ok.hd hc) i pins s σ H I st hg).ex
    subst hP hw hK
    rw [if_neg (by decide)] at eq
    subst eq
    exact W.done s _ _ at_ fun h1 tk k1 => ⟨rfl, I.turnedL (t' := tk) (ch := wr) k1 fun b hb => hf b (sub b hb)⟩

/-! ### enumerate -/
def goE (K : PySem.W.Frag) (t : Bool) (a : Addr) (i : Nat) (H : Hp) : Prop := ∃ xs, SqA K t H a xs ∧ i < xs.length
def jE (K : PySem.W.Frag) (t : Bool) (a : Addr) (i : Nat) (H : Hp) (vs : List V) : Prop := ∃ x, vs = [.int (i : Nat), x] ∧ ∀ xs, SqA K t H a xs → xs[i]? = some x
def sOne (K : PySem.W.Frag) (t : Bool) (a : Addr) (i : Nat) (H : Hp) : Prop := ∃ xs, SqA K t H a xs ∧ xs.length = i
def tnE (t : Bool) (a e it : Addr) (i : Nat) (h : Heap) : Prop := (∃ old, IsEnum h e it (0 + (i : Int)) old) ∧ itAt t h it a i ∧ e ≠ it
theorem enum_at {X : Cx} {pins : List (Addr × Obj)} {σ : L2.St} {H : Hp} {s : Shared} {t : Bool} {a e it : Addr} {i : Nat} {more : Bool} {xs : List V} (I : Inv X pins σ H s) (hh : X.A.handled = none) (st : tnE t a e it i s.heap) (sq : SqA X.K t H a xs) (hl : if more = true then i < xs.length else i = xs.length) :
    AtTurn X H s.heap e [e, it] (tnE t a e it) (jE X.K t a) i more := by
  obtain ⟨us, rel, lay, small⟩ := sqA_lay I sq
  obtain ⟨⟨old, he⟩, hit, ne⟩ := st
  have ap := itAt_apart hit lay
  have ae : e ≠ a := by
    rintro rfl
    cases t with
    | true => obtain ⟨o, z, c, _⟩ := lay; rw [he] at z; cases z; simp at c
    | false => obtain ⟨o, z, c, _⟩ := lay; rw [he] at z; cases z; simp at c
  have D := draws_of (prog := X.prog) (w := X.w) (A := X.A.in1) (t := t) (show X.A.in1.handled = none from hh) ap us.toArray
  have len : xs.length = us.toArray.size := by rw [rel.length]; simp
  refine ⟨_, _, _, _, _, _, WalksT.enumFrom 0 D e ne (by simp [ne, ae]) (by simp), fun b hb => hb, ?_, ⟨⟨old, he⟩, hit, lay⟩, fun vals hv => ?_, fun h1 st1 => ⟨st1.1, st1.2.1, ne⟩⟩
  · rw [← len]; exact hl
  · obtain ⟨tk, x, hx, rfl⟩ := hv
    have hx' : us[i]? = some x := by simpa using hx
    have hi : i < xs.length := by rw [rel.length]; exact (List.getElem?_eq_some_iff.mp hx').1
    obtain ⟨u, hu, ru⟩ := rel.get (List.getElem?_eq_getElem hi)
    rw [hx'] at hu
    cases hu
    refine ⟨[.int (i : Nat), xs[i]], [.int (0 + (i : Int)) tk, x], ⟨_, rfl, fun ys hy => by rw [← sqA_inj I sq hy]; exact List.getElem?_eq_getElem hi⟩, rfl, .cons ⟨tk, by rw [Int.zero_add]⟩ (.cons ru .nil), by show 2 ≤ sizeLine; decide⟩
theorem turn_enumA {P : Program} {w : World} {K : PySem.W.Frag} {elts : List Expr} {kk : Nat} {tpos : Pos} (t : Bool) (a e it : Addr) : Turn P w K (.Tuple elts kk tpos) (itW (goE K t a) (jE K t a) (sOne K t a)) [e, it] e (tnE t a e it) :=
  turn_of (by simp) (fun i h st b hb => by
      obtain ⟨⟨old, he⟩, hit, _⟩ := st
      rcases List.mem_cons.mp hb with rfl | hb
      · exact ⟨_, he, fun v q => nomatch q⟩
      · rw [List.mem_singleton.mp hb]; exact itAt_obj hit)
    (fun i h h' st k => ⟨st.1.imp fun old he => k e (by simp) _ he, itAt_keep st.2.1 fun o q => k it (by simp) o q, st.2.2⟩)
    (fun X hP hw hK hh i pins s σ H I st ⟨xs, sq, hx⟩ => by
      subst hK
      exact enum_at I hh st sq (by rw [if_pos rfl]; exact hx))
    (fun X hP hw hK hh i pins s σ H I st ⟨xs, sq, hx⟩ => by
      subst hK
      exact enum_at I hh st sq (by rw [if_neg (by decide)]; exact hx.symm))
    (fun A i s Q E st h => let ⟨⟨_, he⟩, _⟩ := st; wpAny_pyIter_enum he h)
end DL
end
section
namespace DL
open PySem PySem.Spec PyProof.Rows L2
/-- enumerate(v) of one argument, v anything that begins an iterator -/
theorem meets_enum1 {v : Value} {o : Obj} {Hc : Heap → Prop} (B : Begins v o Hc) : Meets (Builtin.«enumerate.__new__» ⟨[.type "enumerate", v], []⟩) (fun _ R s => Hc s.heap ∧
    R (.ok (.ret (.ref (s.heap.push o).objs.size))) { s with heap := (s.heap.push o).push { cls := .type "enumerate", data := .fields #[.none, .bool false, .ref s.heap.objs.size, rawInt 0, .none, .none] } }) := .of_wp fun prog w A R s both => by
  obtain ⟨pre, post⟩ := both
  obtain ⟨hp, g, d, tk, os⟩ := s
  have hsub := sub_enumerate
  have first : ∀ {A2 : Around} {E2 : Value → Shared → Prop} {Q2 : Value → Shared → Prop}, Q2 (.ref hp.objs.size) ⟨hp.push o, g, d, tk, os⟩ → wpAny (model prog w) A2 (pyIter v) Q2 E2 ⟨hp, g, d, tk, os⟩ := fun q => B.iter prog w _ _ _ _ pre q
  wp_walk using first
  refine wpAny_stack_any fun below => wpAny_pure ?_
  split
  · rename_i c _ _ _ _ _
    cases same : (c == Value.type "enumerate")
    all_goals (wp_walk using first; exact ⟨_, rfl, post⟩)
  · wp_walk using first
    exact ⟨_, rfl, post⟩
theorem enum_call {prog : Program} {w : World} {A : Around} {E Q : Value → Shared → Prop} {s : Shared} {t : Bool} {a : Addr} {items : Array Value} (lay : isSq t s.heap a items)
    (h : ∀ h2, IsEnum h2 (s.heap.objs.size + 1) s.heap.objs.size 0 .none → itAt t h2 s.heap.objs.size a 0 → (∀ b o, s.heap.get? b = some o → h2.get? b = some o) → Q (.ref (s.heap.objs.size + 1)) { s with heap := h2 }) :
    wpAny (model prog w) A (call (.type "enumerate") [.ref a]) Q E s := by
  have B := begins_of t a items
  have size1 : (s.heap.push (itNew t a)).objs.size = s.heap.objs.size + 1 := Heap.size_push ..
  refine callType_new F.called_enumerate (by decide) (F.typeCall_enumerate_1 _) (F.newCall_enumerate_1 _) (fun obj => F.args_object_init_2 obj _) F.entry_enumerate_new (meets_enum1 B) ⟨lay, ?_⟩
  have top := Heap.get?_push_size (s.heap.push (itNew t a)) (o := { cls := .type "enumerate", data := .fields #[.none, .bool false, .ref s.heap.objs.size, rawInt 0, .none, .none] }) rfl
  have low := Heap.get?_push_size s.heap (o := itNew t a) B.free
  rw [size1] at top
  show _ ∧ Q (.ref (s.heap.push (itNew t a)).objs.size) _
  rw [size1]
  exact ⟨⟨_, top, rfl⟩, h _ top (itNew_at (Heap.get?_push_of_some _ low)) fun b o e => Heap.get?_push_of_some _ (Heap.get?_push_of_some _ e)⟩
def iE (K : PySem.W.Frag) (ta : TA) : TI := fun σ H R => ta σ H fun vs H1 => ∃ t a xs, vs = [.ref a] ∧ SqA K t H1 a xs ∧ R (itW (goE K t a) (jE K t a) (sOne K t a)) H1
theorem pi_enumA {X : Cx} {e : Expr} {ta : TA} {p pos tpos : Pos} {elts : List Expr} {kk : Nat} (hg : Gl X "enumerate") (hm : X.mg "enumerate" = none) (ha : PA X [e] ta) (hs : starEach [e] X.env = [(false, eval e X.env)] := by rfl) :
    PI X (.Tuple elts kk tpos) (.Call (.Name "enumerate" p) [e] [] pos) (iE X.K ta) := ⟨fun pins s σ H R I h => by
  refine Call_ (ld_blt I hg hm boot_enumerate (PyProof.Rows.callWith_type1 (thn (ha.run pos pins s σ H _ I h) fun us s1 ⟨vs, H1, I1, rel, t, a, xs, ex, sq, q⟩ => ?_) hs rfl))
  subst ex
  obtain _ | ⟨r, rr⟩ := rel
  cases rr
  cases r
  obtain ⟨_, _, lay, _⟩ := sqA_lay I1 sq
  refine enum_call lay fun h2 he hi k => wpAny_pyIter_enum he ⟨s1.heap.objs.size + 1, [s1.heap.objs.size + 1, s1.heap.objs.size], _, _, H1, rfl, I1.kept (t' := s1.toks) k, turn_enumA t a _ _, ⟨⟨.none, he⟩, hi, Nat.succ_ne_self _⟩, fun b hb => ?_, q⟩
  have le : s1.heap.objs.size ≤ b := by
    simp only [List.mem_cons, List.not_mem_nil, or_false] at hb
    rcases hb with rfl | rfl
    · exact Nat.le_succ _
    · exact Nat.le_refl _
  exact I1.fpOk le (I1.hok.fresh le)⟩

/-! ### zip of two, of three -/
def goZ2 (K : PySem.W.Frag) (t1 t2 : Bool) (a1 a2 : Addr) (i : Nat) (H : Hp) : Prop := ∃ xs ys, SqA K t1 H a1 xs ∧ SqA K t2 H a2 ys ∧ i < xs.length ∧ i < ys.length
def jZ2 (K : PySem.W.Frag) (t1 t2 : Bool) (a1 a2 : Addr) (i : Nat) (H : Hp) (vs : List V) : Prop := ∃ x y, vs = [x, y] ∧ (∀ xs, SqA K t1 H a1 xs → xs[i]? = some x) ∧ ∀ ys, SqA K t2 H a2 ys → ys[i]? = some y
def sZ2 (K : PySem.W.Frag) (t1 t2 : Bool) (a1 a2 : Addr) (i : Nat) (H : Hp) : Prop := ∃ xs ys, SqA K t1 H a1 xs ∧ SqA K t2 H a2 ys ∧ min xs.length ys.length = i
structure tnZ2 (t1 t2 : Bool) (a1 a2 z TI TO i1 i2 : Addr) (i : Nat) (h : Heap) : Prop where
  sep : ZipSep2 z TI TO i1 i2 [i1, a1] [i2, a2]
  z : IsZip h z TI TO .none
  ti : IsTupOf2 h TI (.ref i1) (.ref i2)
  to : ∃ x y, IsTupOf2 h TO x y
  p1 : itAt t1 h i1 a1 i
  p2 : itAt t2 h i2 a2 i
theorem zip2_at {X : Cx} {pins : List (Addr × Obj)} {σ : L2.St} {H : Hp} {s : Shared} {t1 t2 : Bool} {a1 a2 z TI TO i1 i2 : Addr} {i : Nat} {more : Bool} {xs ys : List V} (I : Inv X pins σ H s) (hh : X.A.handled = none) (st : tnZ2 t1 t2 a1 a2 z TI TO i1 i2 i s.heap)
    (s1 : SqA X.K t1 H a1 xs) (s2 : SqA X.K t2 H a2 ys) (hl : if more = true then i < min xs.length ys.length else i = min xs.length ys.length) :
    AtTurn X H s.heap z [z, TI, TO, i1, i2] (tnZ2 t1 t2 a1 a2 z TI TO i1 i2) (jZ2 X.K t1 t2 a1 a2) i more := by
  obtain ⟨us, rel1, lay1, _⟩ := sqA_lay I s1
  obtain ⟨ws, rel2, lay2, _⟩ := sqA_lay I s2
  have D1 := draws_of (prog := X.prog) (w := X.w) (A := X.A.in1) (t := t1) (show X.A.in1.handled = none from hh) (itAt_apart st.p1 lay1) us.toArray
  have D2 := draws_of (prog := X.prog) (w := X.w) (A := X.A.in1) (t := t2) (show X.A.in1.handled = none from hh) (itAt_apart st.p2 lay2) ws.toArray
  have l1 : xs.length = us.toArray.size := by rw [rel1.length]; simp
  have l2 : ys.length = ws.toArray.size := by rw [rel2.length]; simp
  refine ⟨_, _, _, _, _, _, WalksT.zipD2 st.sep D1 D2, fun b hb => ?_, ?_, ⟨st.z, st.ti, st.to, ⟨st.p1, lay1⟩, st.p2, lay2⟩, fun vals hv => ?_, fun h1 q => ⟨st.sep, q.1, q.2.1, q.2.2.1, q.2.2.2.1.1, q.2.2.2.2.1⟩⟩
  · simp only [List.mem_cons, List.not_mem_nil, or_false] at hb ⊢
    rcases hb with rfl | rfl | rfl | rfl <;> simp
  · rw [← l1, ← l2]; exact hl
  · obtain ⟨x, y, hx, hy, rfl⟩ := hv
    have hx' : us[i]? = some x := by simpa using hx
    have hy' : ws[i]? = some y := by simpa using hy
    have i1' : i < xs.length := by rw [rel1.length]; exact (List.getElem?_eq_some_iff.mp hx').1
    have i2' : i < ys.length := by rw [rel2.length]; exact (List.getElem?_eq_some_iff.mp hy').1
    obtain ⟨u, hu, ru⟩ := rel1.get (List.getElem?_eq_getElem i1')
    obtain ⟨v, hv, rv⟩ := rel2.get (List.getElem?_eq_getElem i2')
    rw [hx'] at hu
    rw [hy'] at hv
    cases hu
    cases hv
    exact ⟨[xs[i], ys[i]], [x, y], ⟨_, _, rfl, fun zs hz => by rw [← sqA_inj I s1 hz]; exact List.getElem?_eq_getElem i1', fun zs hz => by rw [← sqA_inj I s2 hz]; exact List.getElem?_eq_getElem i2'⟩, rfl, .cons ru (.cons rv .nil), by show 2 ≤ sizeLine; decide⟩
theorem turn_zip2 {P : Program} {w : World} {K : PySem.W.Frag} {elts : List Expr} {kk : Nat} {tpos : Pos} (t1 t2 : Bool) (a1 a2 z TI TO i1 i2 : Addr) : Turn P w K (.Tuple elts kk tpos) (itW (goZ2 K t1 t2 a1 a2) (jZ2 K t1 t2 a1 a2) (sZ2 K t1 t2 a1 a2)) [z, TI, TO, i1, i2] z (tnZ2 t1 t2 a1 a2 z TI TO i1 i2) :=
  turn_of (by simp) (fun i h st b hb => by
      simp only [List.mem_cons, List.not_mem_nil, or_false] at hb
      rcases hb with rfl | rfl | rfl | rfl | rfl
      · exact ⟨_, st.z, fun v q => nomatch q⟩
      · exact ⟨_, st.ti, fun v q => nomatch q⟩
      · obtain ⟨x, y, q⟩ := st.to; exact ⟨_, q, fun v q => nomatch q⟩
      · exact itAt_obj st.p1
      · exact itAt_obj st.p2)
    (fun i h h' st k => ⟨st.sep, k _ (by simp) _ st.z, k _ (by simp) _ st.ti, st.to.imp fun x q => q.imp fun y q => k _ (by simp) _ q, itAt_keep st.p1 fun o q => k _ (by simp) o q, itAt_keep st.p2 fun o q => k _ (by simp) o q⟩)
    (fun X hP hw hK hh i pins s σ H I st ⟨xs, ys, s1, s2, hx, hy⟩ => by
      subst hK
      refine zip2_at I hh st s1 s2 ?_
      rw [if_pos rfl]
      omega)
    (fun X hP hw hK hh i pins s σ H I st ⟨xs, ys, s1, s2, hx⟩ => by
      subst hK
      exact zip2_at I hh st s1 s2 (by rw [if_neg (by decide)]; exact hx.symm))
    (fun A i s Q E st h => wpAny_pyIter_zip st.z h)
def iZ2 (K : PySem.W.Frag) (ta : TA) : TI := fun σ H R => ta σ H fun vs H1 => ∃ t1 t2 a1 a2 xs ys, vs = [.ref a1, .ref a2] ∧ SqA K t1 H1 a1 xs ∧ SqA K t2 H1 a2 ys ∧ R (itW (goZ2 K t1 t2 a1 a2) (jZ2 K t1 t2 a1 a2) (sZ2 K t1 t2 a1 a2)) H1
theorem isSq_lt {t : Bool} {h : Heap} {a : Addr} {items : Array Value} (x : isSq t h a items) : a < h.objs.size := by
  cases t with
  | true => obtain ⟨o, e, _⟩ := x; exact Heap.lt_size e
  | false => obtain ⟨o, e, _⟩ := x; exact Heap.lt_size e
theorem pi_zip2A {X : Cx} {e1 e2 : Expr} {ta : TA} {p pos tpos : Pos} {elts : List Expr} {kk : Nat} (hg : Gl X "zip") (hm : X.mg "zip" = none) (ha : PA X [e1, e2] ta)
    (hs : starEach [e1, e2] X.env = (false, eval e1 X.env) :: starEach [e2] X.env := by rfl) (hpl : (backTo pos (starEach [e2] X.env)).any (·.1) = false := by rfl) :
    PI X (.Tuple elts kk tpos) (.Call (.Name "zip" p) [e1, e2] [] pos) (iZ2 X.K ta) := ⟨fun pins s σ H R I h => by
  refine Call_ (ld_blt I hg hm PyProof.Rows.boot_zip (PyProof.Rows.callWith_type1 (thn (ha.run pos pins s σ H _ I h) fun us s1 ⟨vs, H1, I1, rel, t1, t2, a1, a2, xs, ys, ex, sq1, sq2, q⟩ => ?_) hs hpl))
  subst ex
  obtain _ | ⟨r, _ | ⟨r', rr⟩⟩ := rel
  cases rr
  cases r
  cases r'
  obtain ⟨u1, _, lay1, _⟩ := sqA_lay I1 sq1
  obtain ⟨u2, _, lay2, _⟩ := sqA_lay I1 sq2
  refine zip_begins2 (begins_of t1 a1 u1.toArray) (begins_of t2 a2 u2.toArray) lay1 lay2 fun h2 hz hti hto g1 g2 hsz k => wpAny_pyIter_zip hz ?_
  have sep := zip_sep2 (N := s1.heap.objs.size) (fp1 := [a1]) (fp2 := [a2]) (fun b hb => by rw [List.mem_singleton.mp hb]; exact isSq_lt lay1) (fun b hb => by rw [List.mem_singleton.mp hb]; exact isSq_lt lay2)
  refine ⟨s1.heap.objs.size + 4, _, _, _, H1, rfl, I1.kept (t' := s1.toks) k, turn_zip2 t1 t2 a1 a2 _ _ _ _ _, ⟨sep, hz, hti, ⟨_, _, hto⟩, itNew_at g1, itNew_at g2⟩, fun b hb => ?_, q⟩
  have le : s1.heap.objs.size ≤ b := by
    simp only [List.mem_cons, List.not_mem_nil, or_false] at hb
    rcases hb with rfl | rfl | rfl | rfl | rfl
    · exact Nat.le_add_right _ _
    · exact Nat.le_add_right _ _
    · exact Nat.le_add_right _ _
    · exact Nat.le_refl _
    · exact Nat.le_add_right _ _
  exact I1.fpOk le (I1.hok.fresh le)⟩
end DL
end
section
namespace DL
open PySem PySem.Spec PyProof.Rows L2
/-! ### enumerate and zip as data -/
section
variable {K : PySem.W.Frag} {μ : Mu} {ν : List Addr} {H : Hp} {st : Sto}
theorem seen_sqA {t : Bool} {a : Addr} {vs : List V} {ν' : List Addr} {μ' : Mu} {H' : Hp} (h : SqA K t (hid μ ν H) a vs) (e : Seen ν μ H ν' μ' H') : SqA K t H' a vs := by
  cases t with
  | true => exact seen_sqT h e
  | false => exact seen_sqL h e
/-- a list or a tuple that stays as it is -/
def seqA : D → Option (Bool × List D)
  | .lst xs => some (false, xs)
  | .fl xs => some (false, xs)
  | .tup xs => some (true, xs)
  | _ => none
theorem seqA_rep {d : D} {v : V} {t : Bool} {xs : List D} (h : Rep K μ (hid μ ν H) d v) (e : seqA d = some (t, xs)) : ∃ a vs, v = .ref a ∧ SqA K t (hid μ ν H) a vs ∧ Reps K μ (hid μ ν H) xs vs := by
  unfold seqA at e
  split at e
  · cases e
    unfold Rep at h
    obtain ⟨a, vs, rfl, h2, _, h4⟩ := h
    exact ⟨a, vs, rfl, .inl (.inl h2), h4⟩
  · cases e
    unfold Rep at h
    obtain ⟨a, vs, rfl, h2, _, h4⟩ := h
    exact ⟨a, vs, rfl, h2, h4⟩
  · cases e
    unfold Rep at h
    obtain ⟨a, vs, rfl, h2, _, h4⟩ := h
    exact ⟨a, vs, rfl, h2, h4⟩
  · cases e
theorem sqA_hid {t : Bool} {a : Addr} {vs : List V} (h : SqA K t (hid μ ν H) a vs) : SqA K t H a vs := by
  cases t with
  | true => exact sqT_same hid_sub h
  | false => exact hid_sub.seq h
theorem gives_enumA {t : Bool} {a : Addr} {vs : List V} {xs : List D} (h : SqA K t (hid μ ν H) a vs) (r : Reps K μ (hid μ ν H) xs vs) : Gives K ν μ H (itW (goE K t a) (jE K t a) (sOne K t a)) (enumD xs) where
  go := fun i ν' μ' H' e hi => by
    rw [enumD_len, r.len] at hi
    exact ⟨vs, seen_sqA h e, hi⟩
  stop := fun ν' μ' H' e => ⟨vs, seen_sqA h e, by rw [enumD_len, r.len]⟩
  yld := fun i ν' μ' H' st x H2 e s hi ⟨T, ws, e1, nT, e2, v, e3, q⟩ => by
    subst e1; subst e2; subst e3
    obtain ⟨d, h1, h2⟩ := r.get' (q vs (seen_sqA h e))
    exact ⟨_, enumD_get h1, s.ext_new nT, s.new nT, rep_pair s (Rep.mono e.mu e.same d v h2) nT⟩
def zip2D (xs ys : List D) : List D := (xs.zip ys).map fun p => D.tup [p.1, p.2]
theorem zip2D_len {xs ys : List D} : (zip2D xs ys).length = min xs.length ys.length := by unfold zip2D; rw [List.length_map, List.length_zip]
theorem gives_zip2A {t1 t2 : Bool} {a b : Addr} {vs ws : List V} {xs ys : List D} (h : SqA K t1 (hid μ ν H) a vs) (g : SqA K t2 (hid μ ν H) b ws) (r : Reps K μ (hid μ ν H) xs vs) (r2 : Reps K μ (hid μ ν H) ys ws) :
    Gives K ν μ H (itW (goZ2 K t1 t2 a b) (jZ2 K t1 t2 a b) (sZ2 K t1 t2 a b)) (zip2D xs ys) where
  go := fun i ν' μ' H' e hi => by
    rw [zip2D_len, r.len, r2.len] at hi
    exact ⟨vs, ws, seen_sqA h e, seen_sqA g e, by omega, by omega⟩
  stop := fun ν' μ' H' e => ⟨vs, ws, seen_sqA h e, seen_sqA g e, by rw [zip2D_len, r.len, r2.len]⟩
  yld := fun i ν' μ' H' st x H2 e s hi ⟨T, us, e1, nT, e2, v, w, e3, q, q2⟩ => by
    subst e1; subst e2; subst e3
    obtain ⟨d, h1, h2⟩ := r.get' (q vs (seen_sqA h e))
    obtain ⟨d2, g1, g2⟩ := r2.get' (q2 ws (seen_sqA g e))
    refine ⟨_, zip_get h1 g1, s.ext_new nT, s.new nT, ?_⟩
    exact rep_tup s nT (by show 2 ≤ sizeLine; decide) (.cons (Rep.mono e.mu e.same d v h2) (.one (Rep.mono e.mu e.same d2 w g2)))
end
section
variable {X : Cx} {E : XK}
def enA (ds : List D) : M (List D) := fun st => match ds with
  | [d] => match seqA d with
    | some (_, xs) => some (.ok (enumD xs) st)
    | none => none
  | _ => none
def iEnA (f : En → M (List D)) : ItF := fun δ => (f δ).bind enA
theorem di_enumA {e : Expr} {f : En → M (List D)} {p pos tpos : Pos} {elts : List Expr} {kk : Nat} (hg : Gl X "enumerate") (hm : X.mg "enumerate" = none) (ha : DA X E [e] f) (hs : starEach [e] X.env = [(false, eval e X.env)] := by rfl) :
    DI X E (.Tuple elts kk tpos) (.Call (.Name "enumerate" p) [e] [] pos) (iEnA f) := pi_imp (pi_enumA hg hm ha hs) fun σ H Q ⟨μ, ν, δ, st, S, o⟩ => by
  refine ⟨μ, ν, δ, st, S, o.fst.imp fun ds st1 μ1 H1 e1 s1 o1 ws hv => ?_⟩
  unfold enA at o1
  split at o1
  · obtain ⟨v, rfl, h⟩ := reps_one hv
    split at o1
    · rename_i t xs hx
      obtain ⟨a, us, rfl, h2, h3⟩ := seqA_rep h hx
      exact ⟨t, a, us, rfl, sqA_hid h2, o1.now s1 _ (gives_enumA h2 h3)⟩
    · exact o1.elim
  · exact o1.elim
def zpA (ds : List D) : M (List D) := fun st => match ds with
  | [d, d2] => match seqA d, seqA d2 with
    | some (_, xs), some (_, ys) => some (.ok (zip2D xs ys) st)
    | _, _ => none
  | _ => none
def iZpA (f : En → M (List D)) : ItF := fun δ => (f δ).bind zpA
theorem di_zipA {e e2 : Expr} {f : En → M (List D)} {p pos tpos : Pos} {elts : List Expr} {kk : Nat} (hg : Gl X "zip") (hm : X.mg "zip" = none) (ha : DA X E [e, e2] f)
    (hs : starEach [e, e2] X.env = (false, eval e X.env) :: starEach [e2] X.env := by rfl) (hpl : (backTo pos (starEach [e2] X.env)).any (·.1) = false := by rfl) :
    DI X E (.Tuple elts kk tpos) (.Call (.Name "zip" p) [e, e2] [] pos) (iZpA f) := pi_imp (pi_zip2A hg hm ha hs hpl) fun σ H Q ⟨μ, ν, δ, st, S, o⟩ => by
  refine ⟨μ, ν, δ, st, S, o.fst.imp fun ds st1 μ1 H1 e1 s1 o1 ws hv => ?_⟩
  unfold zpA at o1
  split at o1
  · obtain ⟨v, v2, rfl, h, g⟩ := reps_two hv
    split at o1
    · rename_i t xs t2 ys hx hy
      obtain ⟨a, us, rfl, h2, h3⟩ := seqA_rep h hx
      obtain ⟨b, ws, rfl, g2, g3⟩ := seqA_rep g hy
      exact ⟨t, t2, a, b, us, ws, rfl, sqA_hid h2, sqA_hid g2, o1.now s1 _ (gives_zip2A h2 g2 h3 g3)⟩
    · exact o1.elim
  · exact o1.elim
end
end DL
end
section
namespace DL
open PySem PySem.Spec PyProof.Rows L2
/-! ### any, all, sum over a list or a tuple -/
section
variable {K : PySem.W.Frag} {μ : Mu} {ν : List Addr} {H : Hp} {st : Sto}
/-- a list (also of the store) or a tuple, as it stands now -/
def asA (st : Sto) (d : D) : Option (Bool × List D) := match asT d with
  | some xs => some (true, xs)
  | none => match asL st d with
    | some xs => some (false, xs)
    | none => none
theorem asA_rep (S : StoOk K μ ν H st) {d : D} {v : V} {t : Bool} {xs : List D} (h : Rep K μ (hid μ ν H) d v) (e : asA st d = some (t, xs)) : ∃ a vs, v = .ref a ∧ SqA K t H a vs ∧ xs.length ≤ sizeLine ∧ Reps K μ (hid μ ν H) xs vs := by
  unfold asA at e
  split at e
  · rename_i ys hy
    cases e
    exact asT_rep h hy
  · split at e
    · rename_i ys hy
      cases e
      exact asL_rep S h hy
    · cases e
/-- the truth of ints and bools -/
def tr1 : D → Option Bool
  | .bl b => some b
  | .int i => some (i != 0)
  | _ => none
theorem tr1_rep {μ : Mu} {G : Hp} {d : D} {v : V} {b : Bool} (h : Rep K μ G d v) (e : tr1 d = some b) : v = .bl b ∨ ∃ i : Int, v = .int i ∧ b = (i != 0) := by
  cases d with
  | bl x => cases e; exact .inl (rep_bl h)
  | int i => cases e; exact .inr ⟨i, rep_int h, rfl⟩
  | _ => cases e
end
theorem walks_of {prog : Program} {w : World} {A : Around} (hh : A.handled = none) {t : Bool} {it a : Addr} (ne : a ≠ it) (items : Array Value) : Walks prog w A it [it, a] [it] items.size (fun i v => items[i]? = some v) (fun i h => itAt t h it a i ∧ isSq t h a items) := by
  cases t with
  | true => exact .tuple hh it a ne items
  | false => exact .list hh it a ne items
theorem sq_keep {t : Bool} {h h' : Heap} {a : Addr} {items : Array Value} (x : isSq t h a items) (k : ∀ o, h.get? a = some o → h'.get? a = some o) : isSq t h' a items := by
  cases t with
  | true => obtain ⟨o, e, r⟩ := x; exact ⟨o, k o e, r⟩
  | false => obtain ⟨o, e, r⟩ := x; exact ⟨o, k o e, r⟩
section
variable {X : Cx} {E : XK}
theorem truth_at {K : PySem.W.Frag} {μ : Mu} {G : Hp} {prog : Program} {w : World} {A : Around} {xs : List D} {vs : List V} {us : List Value} {bs : List Bool} (r : Reps K μ G xs vs) (rel : Vals vs us) (e : allM tr1 xs = some bs) :
    TruthOf prog w A (fun i v => us.toArray[i]? = some v) (fun i => bs.getD i false) := by
  have len : ∀ {l : List D} {b : List Bool}, allM tr1 l = some b → l.length = b.length := by
    intro l
    induction l with
    | nil => intro b h; cases h; rfl
    | cons x l ih => intro b h; obtain ⟨y, ys, rfl, _, h2⟩ := allM_cons h; rw [List.length_cons, List.length_cons, ih h2]
  have at_ : ∀ {l : List D} {b : List Bool} (i : Nat) (x : D), allM tr1 l = some b → l[i]? = some x → ∃ y, b[i]? = some y ∧ tr1 x = some y := by
    intro l
    induction l with
    | nil => intro b i x _ h; simp at h
    | cons z l ih =>
      intro b i x h g
      obtain ⟨y, ys, rfl, h1, h2⟩ := allM_cons h
      cases i with
      | zero => simp at g; subst g; exact ⟨y, rfl, h1⟩
      | succ i => simp at g; obtain ⟨u, q1, q2⟩ := ih i x h2 g; exact ⟨u, by simpa using q1, q2⟩
  intro i v s Q E' hv hq
  have hv' : us[i]? = some v := by simpa using hv
  have hi : i < vs.length := by rw [rel.length]; exact (List.getElem?_eq_some_iff.mp hv').1
  obtain ⟨u, hu, ru⟩ := rel.get (List.getElem?_eq_getElem hi)
  rw [hv'] at hu
  cases hu
  obtain ⟨d, hd, hr⟩ := r.get' (List.getElem?_eq_getElem hi)
  obtain ⟨b, hb, ht⟩ := at_ i d e hd
  have hg : bs.getD i false = b := by rw [List.getD_eq_getElem?_getD, hb]; rfl
  have hq' : Q (bs.getD i false) s := hq
  rw [hg] at hq'
  rcases tr1_rep hr ht with q | ⟨j, q, q2⟩
  · rw [q] at ru
    obtain rfl : v = Value.bool b := ru
    exact wpAny_truthy_bool hq'
  · rw [q] at ru
    obtain ⟨tk, rfl⟩ := ru
    rw [q2] at hq'
    exact PySem.P.truthy_int hq'
theorem allM_len {l : List D} {b : List Bool} (h : allM tr1 l = some b) : l.length = b.length := by
  induction l generalizing b with
  | nil => cases h; rfl
  | cons x l ih => obtain ⟨y, ys, rfl, _, h2⟩ := allM_cons h; rw [List.length_cons, List.length_cons, ih h2]
def anyA (ds : List D) : M D := fun st => match ds with
  | [d] => match asA st d with
    | some (_, xs) => match allM tr1 xs with
      | some bs => some (.ok (.bl (bs.any id)) st)
      | none => none
    | none => none
  | _ => none
theorem cd_anyA (hc : X.calm = true) : CallR X (.builtin "any") (rDs X.K E anyA) := by
  intro pins s σ H xs us Q I rel ⟨μ, ν, ds, st, S, r, o⟩
  unfold anyA at o
  split at o
  case h_2 => exact o.elim
  obtain ⟨v, rfl, h⟩ := reps_one r
  split at o
  case h_2 => exact o.elim
  rename_i t ys hx
  split at o
  case h_2 => exact o.elim
  rename_i bs hb
  obtain ⟨a, vs, rfl, sq, small, hr⟩ := asA_rep S h hx
  obtain ⟨ws, rv, lay, _⟩ := sqA_lay I sq
  rw [Vals.ref1 rel]
  have low : a < s.heap.objs.size := isSq_lt lay
  refine call_any_walk ((begins_of t a ws.toArray).iter _ _ _ _ s _ lay ⟨_, _, _, _, _, _, _, rfl, walks_of (A := X.A.in1) (I.ok.hd hc) (Nat.ne_of_lt low) ws.toArray, ⟨itNew_at (Heap.get?_push_size _ (begins_of t a ws.toArray).free), sq_keep lay fun o eo => Heap.get?_push_of_some _ eo⟩, truth_at hr rv hb, fun h' tk hk => ?_⟩)
  have same : (List.range ws.toArray.size).any (fun i => bs.getD i false) = bs.any id := by
    rw [← L2.any_range, show ws.toArray.size = bs.length by rw [← allM_len hb, hr.len, rv.length]; simp]
  rw [same]
  refine ⟨.bl _, H, I.kept fun b o eo => hk b o (fun hmem => ?_) (Heap.get?_push_of_some _ eo), rfl, o.now S _ to_bl⟩
  rcases List.mem_cons.mp hmem with e1 | hmem
  · exact absurd (e1 ▸ Heap.lt_size eo) (Nat.lt_irrefl _)
  · cases hmem
/-- sum of a list or tuple of ints -/
def sumA (ds : List D) : M D := fun st => match ds with
  | [d] => match asA st d with
    | some (_, xs) => match asInts xs with
      | some ns => some (.ok (.int ns.sum) st)
      | none => none
    | none => none
  | _ => none
theorem cd_sumA (hc : X.calm = true) : CallR X (.builtin "sum") (rDs X.K E sumA) := by
  intro pins s σ H xs us Q I rel ⟨μ, ν, ds, st, S, r, o⟩
  unfold sumA at o
  split at o
  case h_2 => exact o.elim
  obtain ⟨v, rfl, h⟩ := reps_one r
  split at o
  case h_2 => exact o.elim
  rename_i t ys hx
  split at o
  case h_2 => exact o.elim
  rename_i ns hn
  obtain ⟨a, vs, rfl, sq, small, hr⟩ := asA_rep S h hx
  rw [asInts_eq hn] at hr
  have ev := reps_ints hr
  subst ev
  obtain ⟨ws, rv, lay, _⟩ := sqA_lay I sq
  rw [Vals.ref1 rel]
  cases t with
  | false => exact sum_raw (I.ok.hd hc) lay rv.ints fun h' tk t' hk => ⟨.int _, H, I.kept hk, ⟨_, rfl⟩, o.now S _ to_int⟩
  | true =>
    obtain ⟨zs, ez⟩ := rv.ints.allInts.items
    have hz : numsOf (intItems zs).toList = ns := by rw [← ez]; exact rv.ints.numsOf
    rw [nums_intItems] at hz
    have lay' : s.heap.IsTuple a (intItems zs) := by rw [← ez]; exact lay
    refine PySem.W.ktm_sumG (I.ok.hd hc) lay' fun h' tk t' hk => ?_
    rw [preSum_eq, List.take_of_length_le (by simp), hz]
    exact ⟨.int _, H, I.kept hk, ⟨_, rfl⟩, o.now S _ to_int⟩
end
end DL
end
section
namespace DL
open PySem PySem.Spec PyProof.Rows L2
section
variable {X : Cx} {E : XK} {pos : Pos} {k : Nat} {f C : Addr} {fd : FuncData} {ps : List Str} {g : List D → M D}
/-! ### o + x, o - x, o * x by the class's own method -/
/-- the second one is of the class, too -/
def binOD (C : Addr) (g : List D → M D) (o x : D) : M D := fun st => match asI st x with
  | some (C', _) => if C' = C then ownM C g o [x] st else none
  | none => none
theorem back_of {Q : Value → Shared → Prop} {z : V} {r : Value} {s : Shared} (h : RelV z r) (q : Q r s) : PySem.W.CmpBack Q r s := by
  cases z with
  | non => cases (show r = Value.none from h); exact q
  | bl b => cases (show r = Value.bool b from h); exact q
  | int i => obtain ⟨t, rfl⟩ := h; exact q
  | str x => obtain ⟨t, rfl⟩ := h; exact q
  | byt x => obtain ⟨t, rfl⟩ := h; exact q
  | flt x => obtain ⟨t, rfl⟩ := h; exact q
  | ref a => cases (show r = Value.ref a from h); exact q
  | ty a => cases (show r = Value.type a from h); exact q
theorem od_binO {op : Operator} {nm : Str} (hn : PySem.dunder op.info.2 = nm) (hs : PySem.W.findIn X.K (.ref C) nm = some (some (.ref f))) (hf : PySem.W.isFn X.K (.ref f) = true) (he : PySem.W.selfFirst X.K C = true) (hi : InsT X.K C)
    (F : FnOk X.prog X.w X.K X.mg X.base (L2.CX X.prog X.w) k f fd ps (spD X.K g)) (hr : Room k X.A) (hb : Binds X.K fd ps []) (hx : Passes (L2.CX X.prog X.w) X E) : OpR X (binaryOp op) (rD2 X.K E (binOD C g)) := by
  intro pins s σ H x y v u Q I rx ry ⟨μ, ν, dx, dy, st, S, hx1, hy1, o1⟩
  unfold binOD at o1
  split at o1
  case h_2 => exact o1.elim
  rename_i C' fs hI
  split at o1
  case isFalse => exact o1.elim
  rename_i hc
  subst hc
  obtain ⟨a, dd, gs, rfl, ha, o2⟩ := own_rep S hx1 o1
  obtain ⟨b, dd2, gs2, rfl, hb2, _⟩ := asI_rep S hy1 hI
  obtain rfl : v = Value.ref a := rx
  obtain ⟨mA, J, _⟩ := ins_get I.hok ha
  obtain ⟨od, J, _⟩ := J.look
  obtain ⟨m, hF⟩ := I.fr
  obtain ⟨P, Z, pp, _⟩ := kit_of I ry (TyX.base (.ins hb2 hi.cl hi.ha hi.hn hi.htk hi.hm))
  refine PySem.W.binop_K hF I.ok.mod.kin J (Z.ty _ _ I.kIn pp) he (by rw [hn]; exact hs) hf (thn (run_at (vs := [.ref a, .ref b]) F hr rfl hb hx I (.cons rfl (.cons ry .nil)) ⟨μ, ν, [dx, dy], st, S, .cons hx1 (.one hy1), o2⟩) fun r s' q => ?_)
  obtain ⟨z, H', I', rz, q⟩ := q
  exact back_of rz ⟨z, H', I', rz, q⟩
/-! ### a class's method by the class's name; a new instance by a name that holds the class -/
def eCM (C : Addr) (g : List D → M D) (f : En → M (List D)) : EF := fun δ => (f δ).bind fun xs => g (.fn C :: xs)
theorem de_cm {x m : Str} {p apos : Pos} {e : Expr} {es : List Expr} {fa : En → M (List D)} {q : Addr} {mc : Value} {C0 : Addr} {pl : Sem Bool} (hm : X.mg x = some (.ref C)) (h0 : C0 = C) (r : ClX.CRead X.K C mc) (c : ClX.CMet X.K C mc m q f)
    (F : FnOk X.prog X.w X.K X.mg X.base (L2.CX X.prog X.w) k f fd ps (spD X.K g)) (hr : Room k X.A) (hb : Binds X.K fd ps []) (hx : Passes (L2.CX X.prog X.w) X E) (ha : DA X E (e :: es) fa) (hg : Gl X x := by rfl) (hdb : (x == ("__debug__" : Str)) = false := by decide)
    (hst : starEach (e :: es) X.env = (false, eval e X.env) :: starEach es X.env := by rfl) (hpl : (backTo pos (starEach es X.env)).any (·.1) = false := by rfl)
    (ht : eval (.Call (.Attribute (.Name x p) m apos) (e :: es) [] pos) X.env = (do
      let ov ← eval (.Name x p) X.env
      standAt apos.atName
      let (f, first) ← holding [ov] (getMethod ov m pl)
      callWith pos f first (backTo pos (starEach (e :: es) X.env)) (backToKw pos (keywordEach [] X.env))) := by rfl) :
    DE X E (.Call (.Attribute (.Name x p) m apos) (e :: es) [] pos) (eCM C0 g fa) :=
  pe_imp (ClX.pe_cmeth (pe_glob (v := .ref C) hg hm rfl hdb) r c (F.raw hb .nil) hr hx ha hst hpl ht) fun σ H Q ⟨μ, ν, δ, st, S, o⟩ => by
    refine ⟨rfl, μ, ν, δ, st, S, o.fst.imp fun xs st1 μ1 H1 e1 s1 o1 vs hv => ?_⟩
    show spD X.K g ((V.ref C :: vs) ++ []) H1 Q E
    rw [List.append_nil]
    exact ⟨μ1, ν, .fn C0 :: xs, st1, s1, .cons (by unfold Rep; rw [h0]) hv, o1⟩
noncomputable def eMakeL (i : Nat) (C : Addr) (g : List D → M D) (f : En → M (List D)) : EF := fun δ st => match δ[i]? with
  | some (some (.fn C')) => if C' = C then eMake C g f δ st else none
  | _ => none
theorem pe_makeL {i : Nat} {x : Str} {p : Pos} {e : Expr} {es : List Expr} {t : TA} {sp : Sp} (Mk1 : Mk X.K C f) (F : FnOk X.prog X.w X.K X.mg X.base (L2.CX X.prog X.w) k f fd ps sp) (hr : Room (k + 1) X.A) (hb : Binds X.K fd ps []) (hx : Passes (L2.CX X.prog X.w) X E) (ha : PA X (e :: es) t)
    (hN : X.N[i]? = some x) (hv : Vis X.env.scope x) (hdb : (x == ("__debug__" : Str)) = false) (hcd : (x == ("__classdict__" : Str)) = false)
    (he : starEach (e :: es) X.env = (false, eval e X.env) :: starEach es X.env) (hpl : (backTo pos (starEach es X.env)).any (·.1) = false) :
    PE X (.Call (.Name x p) (e :: es) [] pos) (fun σ H Q => σ[i]? = some (some (.ref C)) ∧ tMake C sp [] E t σ H Q) := ⟨fun pins s σ H Q I ⟨slot, rest⟩ => by
  have name := (pe_var (X := X) (pos := p) hN hv hdb hcd).run pins s σ H (fun z H1 => z = .ref C ∧ H1 = H) I ⟨.ref C, slot, rfl, rfl⟩
  refine wpAny_Call_Name_kw (thn name fun u s1 ⟨z, H1, I1, rz, ez, eH⟩ => ?_)
  subst ez eH
  obtain rfl : u = Value.ref C := rz
  exact PySem.W.callWith_K (h₀ := X.base) I1.ok.mod.kin Mk1.kp (thn (ha.run pos pins s1 σ _ _ I1 rest) fun us s2 ⟨vs, H2, I2, rv, q⟩ => ⟨I2.kIn, run_make Mk1 F hr hb .nil hx I2 rv q⟩) he hpl⟩
theorem de_makeL {i : Nat} {x : Str} {p : Pos} {e : Expr} {es : List Expr} {fa : En → M (List D)} (Mk1 : Mk X.K C f) (F : FnOk X.prog X.w X.K X.mg X.base (L2.CX X.prog X.w) k f fd ps (spD X.K g)) (hr : Room (k + 1) X.A) (hb : Binds X.K fd ps []) (hx : Passes (L2.CX X.prog X.w) X E) (ha : DA X E (e :: es) fa)
    (hN : X.N[i]? = some x := by rfl) (hv : Vis X.env.scope x := by first | exact Or.inl rfl | exact Or.inr (Or.inl rfl) | exact Or.inr (Or.inr rfl)) (hdb : (x == ("__debug__" : Str)) = false := by decide) (hcd : (x == ("__classdict__" : Str)) = false := by decide)
    (he : starEach (e :: es) X.env = (false, eval e X.env) :: starEach es X.env := by rfl) (hpl : (backTo pos (starEach es X.env)).any (·.1) = false := by rfl) :
    DE X E (.Call (.Name x p) (e :: es) [] pos) (eMakeL i C g fa) := pe_imp (pe_makeL (i := i) Mk1 F hr hb hx ha hN hv hdb hcd he hpl) fun σ H Q ⟨μ, ν, δ, st, S, o⟩ => by
  unfold eMakeL at o
  split at o
  · rename_i C' hf
    split at o
    · rename_i hq
      subst hq
      obtain ⟨v, h1, h2⟩ := S.env.get hf
      unfold Rep at h2
      subst h2
      exact ⟨h1, tD_make ⟨μ, ν, δ, st, S, o⟩⟩
    · exact o.elim
  · exact o.elim
/-! ### list(range(n)) -/
def rngL (d : D) : M D := fun st => match d with
  | .int n => if -(2 ^ 62) ≤ n ∧ n ≤ 1000000 then some (.ok (.lst (rngD 0 n.toNat)) st) else none
  | _ => none
def eListR1 (f : EF) : EF := fun δ => (f δ).bind rngL
theorem rgV_reps {K : PySem.W.Frag} {μ : Mu} {G : Hp} {n : Int} : Reps K μ G (rngD 0 n.toNat) (rgV 0 n) := by
  unfold rngD rgV
  rw [Int.sub_zero]
  generalize n.toNat = m
  have key : ∀ l : List Nat, Reps K μ G (l.map fun i => D.int (0 + (i : Nat))) (l.map fun i => V.int (0 + (i : Nat))) := fun l => by
    induction l with
    | nil => exact Reps.nil
    | cons i l ih => exact Reps.cons to_int ih
  exact key _
theorem de_listR1 {e : Expr} {fe : EF} {p p2 pos2 : Pos} (hm : X.mg "list" = none) (hm2 : X.mg "range" = none) (he : DE X E e fe) (hc : X.calm = true := by rfl) (hg : Gl X "list" := by rfl) (hg2 : Gl X "range" := by rfl)
    (na : starEach [e] X.env = (false, eval e X.env) :: starEach [] X.env := by rfl) (nb : starEach [.Call (.Name "range" p2) [e] [] pos2] X.env = (false, eval (.Call (.Name "range" p2) [e] [] pos2) X.env) :: starEach [] X.env := by rfl) :
    DE X E (.Call (.Name "list" p) [.Call (.Name "range" p2) [e] [] pos2] [] pos) (eListR1 fe) := pe_imp (pe_listRg hc hg hm (prg_1 hg2 hm2 he na) nb) fun σ H Q ⟨μ, ν, δ, st, S, o⟩ => by
  refine ⟨μ, ν, δ, st, S, o.fst.imp fun d st1 μ1 H1 e1 s1 o1 v hv => ?_⟩
  unfold rngL at o1
  split at o1
  · rename_i n
    split at o1
    · rename_i hn
      have big : (1000000 : Int) < 2 ^ 62 := by decide
      refine ⟨n, rep_int hv, ⟨by decide, by decide, hn.1, Int.lt_of_le_of_lt hn.2 big, ?_⟩, fun q hq => o1.go rfl (s1.ext_new hq) (s1.new hq) _ (rep_lst s1 hq ?_ rgV_reps)⟩
      · have : (n - 0).toNat ≤ 1000000 := by omega
        exact Nat.le_trans this (by decide)
      · rw [rngD_len]
        have : n.toNat ≤ 1000000 := by omega
        exact Nat.le_trans this (by decide)
    · exact o1.elim
  · exact o1.elim
/-! ### len(o) by the class's own method -/
def lenOD (C : Addr) (g : List D → M D) (d : D) : M D := (ownM C g d []).bind fun r st => match r with
  | .int n => if 0 ≤ n ∧ n < 2 ^ 62 then some (.ok (.int n) st) else none
  | _ => none
end
end DL
end
section
namespace DL
open PySem PySem.Spec PyProof.Rows L2
/-! ### zip of three -/
def goZ3 (K : PySem.W.Frag) (t1 t2 t3 : Bool) (a1 a2 a3 : Addr) (i : Nat) (H : Hp) : Prop := ∃ xs ys zs, SqA K t1 H a1 xs ∧ SqA K t2 H a2 ys ∧ SqA K t3 H a3 zs ∧ i < xs.length ∧ i < ys.length ∧ i < zs.length
def jZ3 (K : PySem.W.Frag) (t1 t2 t3 : Bool) (a1 a2 a3 : Addr) (i : Nat) (H : Hp) (vs : List V) : Prop := ∃ x y u, vs = [x, y, u] ∧ (∀ xs, SqA K t1 H a1 xs → xs[i]? = some x) ∧ (∀ ys, SqA K t2 H a2 ys → ys[i]? = some y) ∧ ∀ zs, SqA K t3 H a3 zs → zs[i]? = some u
def sZ3 (K : PySem.W.Frag) (t1 t2 t3 : Bool) (a1 a2 a3 : Addr) (i : Nat) (H : Hp) : Prop := ∃ xs ys zs, SqA K t1 H a1 xs ∧ SqA K t2 H a2 ys ∧ SqA K t3 H a3 zs ∧ min (min xs.length ys.length) zs.length = i
structure tnZ3 (t1 t2 t3 : Bool) (a1 a2 a3 z TI TO i1 i2 i3 : Addr) (i : Nat) (h : Heap) : Prop where
  sep : ZipSep3 z TI TO i1 i2 i3 [i1, a1] [i2, a2] [i3, a3]
  z : IsZip h z TI TO .none
  ti : IsTupOf3 h TI (.ref i1) (.ref i2) (.ref i3)
  to : ∃ x y u, IsTupOf3 h TO x y u
  p1 : itAt t1 h i1 a1 i
  p2 : itAt t2 h i2 a2 i
  p3 : itAt t3 h i3 a3 i
/-- the i-th item of a source, there and here -/
theorem item_of {xs : List V} {us : List Value} {i : Nat} {x : Value} (rel : Vals xs us) (hx : us.toArray[i]? = some x) : ∃ y, xs[i]? = some y ∧ RelV y x := by
  have hx' : us[i]? = some x := by simpa using hx
  have hi : i < xs.length := by rw [rel.length]; exact (List.getElem?_eq_some_iff.mp hx').1
  obtain ⟨u, hu, ru⟩ := rel.get (List.getElem?_eq_getElem hi)
  rw [hx'] at hu
  cases hu
  exact ⟨_, List.getElem?_eq_getElem hi, ru⟩
theorem zip3_at {X : Cx} {pins : List (Addr × Obj)} {σ : L2.St} {H : Hp} {s : Shared} {t1 t2 t3 : Bool} {a1 a2 a3 z TI TO i1 i2 i3 : Addr} {i : Nat} {more : Bool} {xs ys zs : List V} (I : Inv X pins σ H s) (hh : X.A.handled = none) (st : tnZ3 t1 t2 t3 a1 a2 a3 z TI TO i1 i2 i3 i s.heap)
    (s1 : SqA X.K t1 H a1 xs) (s2 : SqA X.K t2 H a2 ys) (s3 : SqA X.K t3 H a3 zs) (hl : if more = true then i < min (min xs.length ys.length) zs.length else i = min (min xs.length ys.length) zs.length) :
    AtTurn X H s.heap z [z, TI, TO, i1, i2, i3] (tnZ3 t1 t2 t3 a1 a2 a3 z TI TO i1 i2 i3) (jZ3 X.K t1 t2 t3 a1 a2 a3) i more := by
  obtain ⟨us, rel1, lay1, _⟩ := sqA_lay I s1
  obtain ⟨ws, rel2, lay2, _⟩ := sqA_lay I s2
  obtain ⟨qs, rel3, lay3, _⟩ := sqA_lay I s3
  have calm : X.A.in1.handled = none := hh
  have D1 := draws_of (prog := X.prog) (w := X.w) (A := X.A.in1) (t := t1) calm (itAt_apart st.p1 lay1) us.toArray
  have D2 := draws_of (prog := X.prog) (w := X.w) (A := X.A.in1) (t := t2) calm (itAt_apart st.p2 lay2) ws.toArray
  have D3 := draws_of (prog := X.prog) (w := X.w) (A := X.A.in1) (t := t3) calm (itAt_apart st.p3 lay3) qs.toArray
  have l1 : xs.length = us.toArray.size := by rw [rel1.length]; simp
  have l2 : ys.length = ws.toArray.size := by rw [rel2.length]; simp
  have l3 : zs.length = qs.toArray.size := by rw [rel3.length]; simp
  refine ⟨_, _, _, _, _, _, WalksT.zipD3 st.sep D1 D2 D3, fun b hb => ?_, ?_, ⟨st.z, st.ti, st.to, ⟨st.p1, lay1⟩, ⟨st.p2, lay2⟩, st.p3, lay3⟩, fun vals hv => ?_, fun h1 q => ⟨st.sep, q.1, q.2.1, q.2.2.1, q.2.2.2.1.1, q.2.2.2.2.1.1, q.2.2.2.2.2.1⟩⟩
  · simp only [List.mem_cons, List.not_mem_nil, or_false] at hb ⊢
    rcases hb with rfl | rfl | rfl | rfl | rfl <;> simp
  · rw [← l1, ← l2, ← l3]; exact hl
  · obtain ⟨x, y, u, hx, hy, hu, rfl⟩ := hv
    obtain ⟨x', gx, rx⟩ := item_of rel1 hx
    obtain ⟨y', gy, ry⟩ := item_of rel2 hy
    obtain ⟨u', gu, ru⟩ := item_of rel3 hu
    exact ⟨[x', y', u'], [x, y, u], ⟨_, _, _, rfl, fun ls hs => by rw [← sqA_inj I s1 hs]; exact gx, fun ls hs => by rw [← sqA_inj I s2 hs]; exact gy, fun ls hs => by rw [← sqA_inj I s3 hs]; exact gu⟩, rfl, .cons rx (.cons ry (.cons ru .nil)), by show 3 ≤ sizeLine; decide⟩
theorem turn_zip3 {P : Program} {w : World} {K : PySem.W.Frag} {elts : List Expr} {kk : Nat} {tpos : Pos} (t1 t2 t3 : Bool) (a1 a2 a3 z TI TO i1 i2 i3 : Addr) : Turn P w K (.Tuple elts kk tpos) (itW (goZ3 K t1 t2 t3 a1 a2 a3) (jZ3 K t1 t2 t3 a1 a2 a3) (sZ3 K t1 t2 t3 a1 a2 a3)) [z, TI, TO, i1, i2, i3] z (tnZ3 t1 t2 t3 a1 a2 a3 z TI TO i1 i2 i3) :=
  turn_of (by simp) (fun i h st b hb => by
      simp only [List.mem_cons, List.not_mem_nil, or_false] at hb
      rcases hb with rfl | rfl | rfl | rfl | rfl | rfl
      · exact ⟨_, st.z, fun v q => nomatch q⟩
      · exact ⟨_, st.ti, fun v q => nomatch q⟩
      · obtain ⟨x, y, u, q⟩ := st.to; exact ⟨_, q, fun v q => nomatch q⟩
      · exact itAt_obj st.p1
      · exact itAt_obj st.p2
      · exact itAt_obj st.p3)
    (fun i h h' st k => ⟨st.sep, k _ (by simp) _ st.z, k _ (by simp) _ st.ti, st.to.imp fun x q => q.imp fun y q => q.imp fun u q => k _ (by simp) _ q, itAt_keep st.p1 fun o q => k _ (by simp) o q, itAt_keep st.p2 fun o q => k _ (by simp) o q, itAt_keep st.p3 fun o q => k _ (by simp) o q⟩)
    (fun X hP hw hK hh i pins s σ H I st ⟨xs, ys, zs, s1, s2, s3, hx, hy, hz⟩ => by
      subst hK
      refine zip3_at I hh st s1 s2 s3 ?_
      rw [if_pos rfl]
      omega)
    (fun X hP hw hK hh i pins s σ H I st ⟨xs, ys, zs, s1, s2, s3, hx⟩ => by
      subst hK
      exact zip3_at I hh st s1 s2 s3 (by rw [if_neg (by decide)]; exact hx.symm))
    (fun A i s Q E st h => wpAny_pyIter_zip st.z h)
def iZ3 (K : PySem.W.Frag) (ta : TA) : TI := fun σ H R => ta σ H fun vs H1 => ∃ t1 t2 t3 a1 a2 a3 xs ys zs, vs = [.ref a1, .ref a2, .ref a3] ∧ SqA K t1 H1 a1 xs ∧ SqA K t2 H1 a2 ys ∧ SqA K t3 H1 a3 zs ∧ R (itW (goZ3 K t1 t2 t3 a1 a2 a3) (jZ3 K t1 t2 t3 a1 a2 a3) (sZ3 K t1 t2 t3 a1 a2 a3)) H1
theorem pi_zip3A {X : Cx} {e1 e2 e3 : Expr} {ta : TA} {p pos tpos : Pos} {elts : List Expr} {kk : Nat} (hg : Gl X "zip") (hm : X.mg "zip" = none) (ha : PA X [e1, e2, e3] ta)
    (hs : starEach [e1, e2, e3] X.env = (false, eval e1 X.env) :: starEach [e2, e3] X.env := by rfl) (hpl : (backTo pos (starEach [e2, e3] X.env)).any (·.1) = false := by rfl) :
    PI X (.Tuple elts kk tpos) (.Call (.Name "zip" p) [e1, e2, e3] [] pos) (iZ3 X.K ta) := ⟨fun pins s σ H R I h => by
  refine Call_ (ld_blt I hg hm PyProof.Rows.boot_zip (PyProof.Rows.callWith_type1 (thn (ha.run pos pins s σ H _ I h) fun us s1 ⟨vs, H1, I1, rel, t1, t2, t3, a1, a2, a3, xs, ys, zs, ex, sq1, sq2, sq3, q⟩ => ?_) hs hpl))
  subst ex
  obtain _ | ⟨r, _ | ⟨r', _ | ⟨r'', rr⟩⟩⟩ := rel
  cases rr
  cases r
  cases r'
  cases r''
  obtain ⟨u1, _, lay1, _⟩ := sqA_lay I1 sq1
  obtain ⟨u2, _, lay2, _⟩ := sqA_lay I1 sq2
  obtain ⟨u3, _, lay3, _⟩ := sqA_lay I1 sq3
  refine zip_begins3 (begins_of t1 a1 u1.toArray) (begins_of t2 a2 u2.toArray) (begins_of t3 a3 u3.toArray) lay1 lay2 lay3 fun h2 hz hti hto g1 g2 g3 hsz k => wpAny_pyIter_zip hz ?_
  have sep := zip_sep3 (N := s1.heap.objs.size) (fp1 := [a1]) (fp2 := [a2]) (fp3 := [a3]) (fun b hb => by rw [List.mem_singleton.mp hb]; exact isSq_lt lay1) (fun b hb => by rw [List.mem_singleton.mp hb]; exact isSq_lt lay2) (fun b hb => by rw [List.mem_singleton.mp hb]; exact isSq_lt lay3)
  refine ⟨s1.heap.objs.size + 5, _, _, _, H1, rfl, I1.kept (t' := s1.toks) k, turn_zip3 t1 t2 t3 a1 a2 a3 _ _ _ _ _ _, ⟨sep, hz, hti, ⟨_, _, _, hto⟩, itNew_at g1, itNew_at g2, itNew_at g3⟩, fun b hb => ?_, q⟩
  have le : s1.heap.objs.size ≤ b := by
    simp only [List.mem_cons, List.not_mem_nil, or_false] at hb
    rcases hb with rfl | rfl | rfl | rfl | rfl | rfl
    · exact Nat.le_add_right _ _
    · exact Nat.le_add_right _ _
    · exact Nat.le_add_right _ _
    · exact Nat.le_refl _
    · exact Nat.le_add_right _ _
    · exact Nat.le_add_right _ _
  exact I1.fpOk le (I1.hok.fresh le)⟩
section
variable {K : PySem.W.Frag} {μ : Mu} {ν : List Addr} {H : Hp} {st : Sto}
def zip3D (xs ys zs : List D) : List D := (List.range (min (min xs.length ys.length) zs.length)).map fun i => D.tup [xs.getD i .non, ys.getD i .non, zs.getD i .non]
theorem zip3D_len {xs ys zs : List D} : (zip3D xs ys zs).length = min (min xs.length ys.length) zs.length := by unfold zip3D; rw [List.length_map, List.length_range]
theorem zip3D_get {xs ys zs : List D} {i : Nat} {x y z : D} (hx : xs[i]? = some x) (hy : ys[i]? = some y) (hz : zs[i]? = some z) : (zip3D xs ys zs)[i]? = some (.tup [x, y, z]) := by
  have h1 := (List.getElem?_eq_some_iff.mp hx).1
  have h2 := (List.getElem?_eq_some_iff.mp hy).1
  have h3 := (List.getElem?_eq_some_iff.mp hz).1
  unfold zip3D
  rw [List.getElem?_map, List.getElem?_range (by omega)]
  simp only [Option.map_some, List.getD_eq_getElem?_getD, hx, hy, hz, Option.getD_some]
theorem gives_zip3A {t1 t2 t3 : Bool} {a b c : Addr} {vs ws us : List V} {xs ys zs : List D} (h : SqA K t1 (hid μ ν H) a vs) (g : SqA K t2 (hid μ ν H) b ws) (k : SqA K t3 (hid μ ν H) c us) (r : Reps K μ (hid μ ν H) xs vs) (r2 : Reps K μ (hid μ ν H) ys ws) (r3 : Reps K μ (hid μ ν H) zs us) :
    Gives K ν μ H (itW (goZ3 K t1 t2 t3 a b c) (jZ3 K t1 t2 t3 a b c) (sZ3 K t1 t2 t3 a b c)) (zip3D xs ys zs) where
  go := fun i ν' μ' H' e hi => by
    rw [zip3D_len, r.len, r2.len, r3.len] at hi
    exact ⟨vs, ws, us, seen_sqA h e, seen_sqA g e, seen_sqA k e, by omega, by omega, by omega⟩
  stop := fun ν' μ' H' e => ⟨vs, ws, us, seen_sqA h e, seen_sqA g e, seen_sqA k e, by rw [zip3D_len, r.len, r2.len, r3.len]⟩
  yld := fun i ν' μ' H' st x H2 e s hi ⟨T, ls, e1, nT, e2, v, w, u, e3, q, q2, q3⟩ => by
    subst e1; subst e2; subst e3
    obtain ⟨d, h1, h2⟩ := r.get' (q vs (seen_sqA h e))
    obtain ⟨d2, g1, g2⟩ := r2.get' (q2 ws (seen_sqA g e))
    obtain ⟨d3, k1, k2⟩ := r3.get' (q3 us (seen_sqA k e))
    refine ⟨_, zip3D_get h1 g1 k1, s.ext_new nT, s.new nT, ?_⟩
    exact rep_tup s nT (by show 3 ≤ sizeLine; decide) (.cons (Rep.mono e.mu e.same d v h2) (.cons (Rep.mono e.mu e.same d2 w g2) (.one (Rep.mono e.mu e.same d3 u k2))))
theorem reps_three {d e f : D} {vs : List V} {G : Hp} (h : Reps K μ G [d, e, f] vs) : ∃ v w u, vs = [v, w, u] ∧ Rep K μ G d v ∧ Rep K μ G e w ∧ Rep K μ G f u := by
  unfold Reps at h
  obtain ⟨v, r, rfl, h1, h2⟩ := h
  obtain ⟨w, u, rfl, h3, h4⟩ := reps_two h2
  exact ⟨v, w, u, rfl, h1, h3, h4⟩
end
section
variable {X : Cx} {E : XK}
def zp3A (ds : List D) : M (List D) := fun st => match ds with
  | [d, d2, d3] => match seqA d, seqA d2, seqA d3 with
    | some (_, xs), some (_, ys), some (_, zs) => some (.ok (zip3D xs ys zs) st)
    | _, _, _ => none
  | _ => none
def iZp3A (f : En → M (List D)) : ItF := fun δ => (f δ).bind zp3A
theorem di_zip3A {e e2 e3 : Expr} {f : En → M (List D)} {p pos tpos : Pos} {elts : List Expr} {kk : Nat} (hg : Gl X "zip") (hm : X.mg "zip" = none) (ha : DA X E [e, e2, e3] f)
    (hs : starEach [e, e2, e3] X.env = (false, eval e X.env) :: starEach [e2, e3] X.env := by rfl) (hpl : (backTo pos (starEach [e2, e3] X.env)).any (·.1) = false := by rfl) :
    DI X E (.Tuple elts kk tpos) (.Call (.Name "zip" p) [e, e2, e3] [] pos) (iZp3A f) := pi_imp (pi_zip3A hg hm ha hs hpl) fun σ H Q ⟨μ, ν, δ, st, S, o⟩ => by
  refine ⟨μ, ν, δ, st, S, o.fst.imp fun ds st1 μ1 H1 e1 s1 o1 ws hv => ?_⟩
  unfold zp3A at o1
  split at o1
  · obtain ⟨v, v2, v3, rfl, h, g, k⟩ := reps_three hv
    split at o1
    · rename_i t xs t2 ys t3 zs hx hy hz
      obtain ⟨a, us, rfl, h2, h3⟩ := seqA_rep h hx
      obtain ⟨b, ws, rfl, g2, g3⟩ := seqA_rep g hy
      obtain ⟨c, qs, rfl, k2, k3⟩ := seqA_rep k hz
      exact ⟨t, t2, t3, a, b, c, us, ws, qs, rfl, sqA_hid h2, sqA_hid g2, sqA_hid k2, o1.now s1 _ (gives_zip3A h2 g2 k2 h3 g3 k3)⟩
    · exact o1.elim
  · exact o1.elim
end
end DL
end
section
namespace DL
open PySem PySem.Spec PyProof.Rows L2
/-! ### targets of a comprehension, of any form -/
structure CGw (K : PySem.W.Frag) (vs : List Nat) (t : TG) (g : TgF) : Prop where
  run : ∀ {μ : Mu} {ν : List Addr} {d : D} {δ : En} {st : Sto} {σ : L2.St} {H : Hp} {v : V} {Q : L2.St → Hp → Prop}, Sit K μ ν δ st σ H → Rep K μ (hid μ ν H) d v →
    Out K ν E0 μ H (g d δ st) (fun δ' st' μ' H' => ∀ σ', SimE K μ' (hid μ' ν H') δ' σ' → L2.wipe σ' vs = L2.wipe σ vs → Q σ' H') → t v σ H Q
structure CGws (K : PySem.W.Frag) (vs : List Nat) (t : TGs) (gs : List TgF) : Prop where
  run : ∀ {μ : Mu} {ν : List Addr} {ds : List D} {δ : En} {st : Sto} {σ : L2.St} {H : Hp} {us : List V} {Q : L2.St → Hp → Prop}, Sit K μ ν δ st σ H → Reps K μ (hid μ ν H) ds us →
    Out K ν E0 μ H (gTs gs ds δ st) (fun δ' st' μ' H' => ∀ σ', SimE K μ' (hid μ' ν H') δ' σ' → L2.wipe σ' vs = L2.wipe σ vs → Q σ' H') → t us σ H Q
section
variable {K : PySem.W.Frag} {vs : List Nat}
theorem cgw_name {i : Nat} (hi : i ∈ vs) : CGw K vs (gName i) (gN i) := ⟨fun S hv o => o.ret S.sto _ (S.env.set hv) (wipe_set hi)⟩
theorem cgws_nil : CGws K vs gNil [] := ⟨fun {μ ν ds δ st σ H us Q} S hv o => by
  cases ds with
  | nil =>
    unfold Reps at hv
    exact ⟨hv, o.ret S.sto σ S.env rfl⟩
  | cons d ds => exact o.elim⟩
theorem cgws_cons {t : TG} {u : TGs} {g : TgF} {gs : List TgF} (h1 : CGw K vs t g) (h2 : CGws K vs u gs) : CGws K vs (gCons t u) (g :: gs) := ⟨fun {μ ν ds δ st σ H us Q} S hv o => by
  cases ds with
  | nil => exact o.elim
  | cons d ds =>
    unfold Reps at hv
    obtain ⟨w, r, rfl, hw, hr⟩ := hv
    refine ⟨w, r, rfl, h1.run S hw (Out.imp (Out.fst (m := g d δ) (f := fun δ' => gTs gs ds δ') o) fun δ' st1 μ1 H1 e1 s1 o1 σ' hσ same => ?_)⟩
    refine h2.run ⟨s1, hσ⟩ (hr.ext e1) (o1.imp fun δ2 st2 μ2 H2 e2 s2 q σ2 hσ2 same2 => q σ2 hσ2 (same2.trans same))⟩
theorem cgw_tup {n : Nat} {t : TGs} {gs : List TgF} (h : CGws K vs t gs) (hl : gs.length = n := by rfl) : CGw K vs (gTup K n t) (gT gs) := ⟨fun {μ ν d δ st σ H v Q} S hv o => by
  unfold gT at o
  split at o
  · rename_i xs hx
    split at o
    · rename_i hlen
      obtain ⟨a, ws, rfl, e2, e3, e4⟩ := asT_rep hv hx
      exact ⟨a, ws, rfl, e2, by rw [← e4.len, hlen, hl], h.run S e4 o⟩
    · exact o.elim
  · exact o.elim⟩
theorem cg_of {t : TG} {g : TgF} (h : CGw K vs t g) : CG K vs t g := ⟨fun S hv hw o => h.run S hv (o.imp fun δ' st' μ' H' e s q σ' hσ same => q σ' hσ (same.trans hw))⟩
end
end DL
end
section
namespace DL
open PySem PySem.Spec PyProof.Rows L2
section
variable {X : Cx} {E : XK} {pos : Pos} {k : Nat} {f C : Addr} {fd : FuncData} {ps : List Str} {g : List D → M D}
/-! ### an empty dict; a list made empty -/
theorem de_dct0 : DE X E (.Dict [] [] pos) (eC (.dct [])) := pe_imp pe_dnewK fun σ H Q ⟨μ, ν, δ, st, S, o⟩ p hp => by
  refine o.go rfl (S.sto.ext_new hp) (S.sto.new hp) _ ?_
  unfold Rep
  refine ⟨p, [], rfl, .inl ?_, by unfold KReps; rfl⟩
  rw [hid_of (S.sto.fresh hp).1 (S.sto.fresh hp).2, upd_same]
def clrD (o : D) : M D := fun st => match o with
  | .obj i => match st[i]? with
    | some (.lst _) => some (.ok .non (st.set i (.lst [])))
    | _ => none
  | _ => none
def eClr (fo : EF) : EF := fun δ => (fo δ).bind clrD
theorem de_clear {o : Expr} {apos : Pos} {fo : EF} (ho : DE X E o fo) (hbase : attributeBase o "clear" X.env (eval o X.env) = eval o X.env := by rfl) (hline : (apos.endLine == pos.line) = true := by rfl) :
    DE X E (.Call (.Attribute o "clear" apos) [] [] pos) (eClr fo) :=
  pe_imp (pe_bm0 PySem.F.plainAttrs_list PySem.F.slot_list_clear PySem.F.type_list_clear mt_clear ho hbase hline) fun σ H Q ⟨μ, ν, δ, st, S, o⟩ => by
    refine ⟨μ, ν, δ, st, S, o.fst.imp fun x st1 μ1 H1 e1 s1 o1 v hv => ?_⟩
    unfold clrD at o1
    split at o1
    · rename_i i
      split at o1
      · rename_i xs hc
        obtain ⟨⟨a, vs, h1, h2, h3, h4⟩, hav⟩ := s1.obj hv hc
        refine ⟨by rw [hav a h1]; exact .inl ⟨rfl, vs, .inl (.inl h2)⟩, a, vs, hav a h1, rfl, h2, ?_⟩
        have P := s1.put (o := .lst []) (c := .lst []) h1 ⟨a, [], h1, upd_same, Nat.zero_le _, .nil⟩
        exact o1.go rfl P.2 P.1 _ to_non
      · exact o1.elim
    · exact o1.elim
/-! ### len(o), bool(o) by the class's own methods -/
def oneD (r : D → M D) (ds : List D) : M D := match ds with
  | [d] => r d
  | _ => M.no
theorem oneD_rep {K : PySem.W.Frag} {r : D → M D} {ds : List D} {st : Sto} {μ : Mu} {ν : List Addr} {H : Hp} {k : D → Sto → Mu → Hp → Prop} {xs : List V} {us : List Value} (hr : Reps K μ (hid μ ν H) ds xs) (rv : Vals xs us) (o : Out K ν E μ H (oneD r ds st) k) :
    ∃ d x u, xs = [x] ∧ us = [u] ∧ RelV x u ∧ Rep K μ (hid μ ν H) d x ∧ Out K ν E μ H (r d st) k := by
  unfold oneD at o
  split at o
  · rename_i d
    obtain ⟨x, rfl, hx⟩ := reps_one hr
    obtain ⟨u, rfl, ru⟩ := vals1 rv
    exact ⟨d, x, u, rfl, rfl, ru, hx, o⟩
  · exact o.elim
theorem cd_lenO (hs : PySem.W.findIn X.K (.ref C) "__len__" = some (some (.ref f))) (hf : PySem.W.isFn X.K (.ref f) = true) (F : FnOk X.prog X.w X.K X.mg X.base (L2.CX X.prog X.w) k f fd ps (spD X.K g)) (hr : Room (k + 1) X.A) (hb : Binds X.K fd ps []) (hx : Passes (L2.CX X.prog X.w) X E) :
    CallR X (.builtin "len") (rDs X.K E (oneD (lenOD C g))) := by
  intro pins s σ H xs us Q I rv ⟨μ, ν, ds, st, S, hd, o⟩
  obtain ⟨d, x, u, rfl, rfl, ru, hv, o⟩ := oneD_rep hd rv o
  unfold lenOD at o
  obtain ⟨a, dd, gs, rfl, ha, o2⟩ := own_rep S hv o.fst
  obtain rfl : u = Value.ref a := ru
  obtain ⟨mA, J, _⟩ := ins_get I.hok ha
  obtain ⟨od, J, _⟩ := J.look
  obtain ⟨m, hF⟩ := I.fr
  refine PySem.W.len_K hF I.ok.mod.kin J hs hf (thn (run_at (A := X.A.in1) (vs := [.ref a]) (Q := fun z H' => ∃ n : Int, z = .int n ∧ (0 ≤ n ∧ n < 2 ^ 62) ∧ Q (.int n) H') F hr.in1 rfl hb hx I (.cons rfl .nil) ⟨μ, ν, [d], st, S, .one hv, o2.imp fun d2 st2 μ2 H2 e2 s2 o3 w hw => ?_⟩) fun r s' q => ?_)
  · split at o3
    · split at o3
      · rename_i n hn
        exact ⟨n, rep_int hw, hn, o3.now s2 _ to_int⟩
      · exact o3.elim
    · exact o3.elim
  · obtain ⟨z, H', I', rz, n, rfl, hn, q⟩ := q
    obtain ⟨t, rfl⟩ := rz
    exact ⟨⟨hn.1, by omega⟩, .int n, H', I'.tok _, ⟨_, rfl⟩, q⟩
def bolOD (C : Addr) (g : List D → M D) (d : D) : M D := (ownM C g d []).bind fun r st => match r with
  | .bl b => some (.ok (.bl b) st)
  | _ => none
theorem bool_new_own {prog : Program} {w : World} (v : Value) : MeetsIn prog w (Builtin.«bool.__new__» ⟨[.type "bool", v], []⟩) (fun A R s => wpAny (model prog w) A.in1 (truthy v) (fun b s' => R (.ok (.ret (.bool b))) s') (fun e s' => R (.error e) s') s) :=
  .of_wp fun A R s h => by
    obtain ⟨hp, g, d, tk, os⟩ := s
    have f1 := F.conv_sub_bool
    repeat (any_goals (first | assumption | (with_reducible refine wpAny_mono h ?_ ?_) | wp_step))
    · intro b s' hb
      repeat (any_goals (first | assumption | wp_step))
      exact ⟨_, rfl, hb⟩
    · exact fun _ _ y => y
theorem cd_boolO (hs : PySem.W.findIn X.K (.ref C) "__bool__" = some (some (.ref f))) (hf : PySem.W.isFn X.K (.ref f) = true) (F : FnOk X.prog X.w X.K X.mg X.base (L2.CX X.prog X.w) k f fd ps (spD X.K g)) (hr : Room (k + 2) X.A) (hb : Binds X.K fd ps []) (hx : Passes (L2.CX X.prog X.w) X E) :
    CallR X (.type "bool") (rDs X.K E (oneD (bolOD C g))) := by
  intro pins s σ H xs us Q I rv ⟨μ, ν, ds, st, S, hd, o⟩
  obtain ⟨d, x, u, rfl, rfl, ru, hv, o⟩ := oneD_rep hd rv o
  unfold bolOD at o
  obtain ⟨a, dd, gs, rfl, ha, o2⟩ := own_rep S hv o.fst
  obtain rfl : u = Value.ref a := ru
  obtain ⟨mA, J, _⟩ := ins_get I.hok ha
  obtain ⟨od, J, _⟩ := J.look
  obtain ⟨m, hF⟩ := I.fr
  have body := run_at (A := X.A.in1.in1) (vs := [.ref a]) (Q := fun z H' => ∃ b : Bool, z = .bl b ∧ Q (.bl b) H') F hr.in1.in1 rfl hb hx I (.cons rfl .nil) ⟨μ, ν, [d], st, S, .one hv, o2.imp fun d2 st2 μ2 H2 e2 s2 o3 w hw => by
    split at o3
    · rename_i n
      exact ⟨n, rep_bl hw, o3.now s2 _ to_bl⟩
    · exact o3.elim⟩
  refine callType_newIn PySem.F.called_bool PySem.F.newNe_bool (PySem.F.typeCall_bool_1 _) (PySem.F.newCall_bool_1 _) (fun obj => PySem.F.args_object_init_2 obj _) PySem.F.entry_bool_new (bool_new_own (.ref a)) ?_
  refine PySem.W.truthy_K hF I.ok.mod.kin J hs hf (thn body fun r s' q => ?_)
  obtain ⟨z, H', I', rz, b, rfl, q⟩ := q
  cases rz
  exact ⟨rfl, .bl b, H', I', rfl, q⟩
/-! ### x += e of a name -/
def sAugN (f : Int → Int → Int) (i : Nat) (fe : EF) : SF := fun δ st => match δ[i]? with
  | some (some x) => ((fe δ).bind fun y => (augI f x y).bind fun z => M.pure (.nx (δ.set i (some z)))) st
  | _ => none
abbrev sAugNadd (i : Nat) (fe : EF) : SF := sAugN (fun i j => i + j) i fe
abbrev sAugNsub (i : Nat) (fe : EF) : SF := sAugN (fun i j => i - j) i fe
theorem ds_augN {fn : Int → Int → Int} {i : Nat} {s : Stmt} {fe : EF} {te : TE} (h : PS X s (tAug i te (ipI fn))) (hte : ∀ σ H Q, tD X.K E fe σ H Q → te σ H Q) : DSt X E s (sAugN fn i fe) :=
  ps_imp h fun T σ H ⟨μ, ν, δ, st, S, o⟩ => by
    unfold sAugN at o
    split at o
    · rename_i d hd
      obtain ⟨v, h1, h2⟩ := S.env.get hd
      refine ⟨v, h1, hte _ _ _ ⟨μ, ν, δ, st, S, o.fst.imp fun y st1 μ1 H1 e1 s1 o1 w hw => ?_⟩⟩
      have o2 := o1.fst
      unfold augI at o2
      split at o2
      · rename_i m n
        refine ⟨m, n, rep_int h2, rep_int hw, ?_⟩
        exact (o2.now s1).ret s1 _ ((S.env.ext e1).set to_int)
      · exact o2.elim
    · exact o.elim
theorem ds_augNadd {i : Nat} {x : Str} {e : Expr} {fe : EF} {pos' : Pos} (he : DE X E e fe) (h : ∀ {te : TE}, PE X e te → PS X (.AugAssign (.Name x pos') .Add e pos) (tAug i te (ipI fun i j => i + j))) : DSt X E (.AugAssign (.Name x pos') .Add e pos) (sAugNadd i fe) := ds_augN (h he) fun _ _ _ z => z
theorem ds_augNsub {i : Nat} {x : Str} {e : Expr} {fe : EF} {pos' : Pos} (he : DE X E e fe) (h : ∀ {te : TE}, PE X e te → PS X (.AugAssign (.Name x pos') .Sub e pos) (tAug i te (ipI fun i j => i - j))) : DSt X E (.AugAssign (.Name x pos') .Sub e pos) (sAugNsub i fe) := ds_augN (h he) fun _ _ _ z => z
/-! ### while -/
def whileM (c : En → M Bool) (body : SF) : Nat → SF
  | 0 => fun _ => M.no
  | n + 1 => fun δ => (c δ).bind fun b => if b = true then (body δ).bind fun fl => match fl with
    | .nx δ' => whileM c body n δ'
    | .ct δ' => whileM c body n δ'
    | .bk δ' => M.pure (.nx δ')
    | .rt d => M.pure (.rt d)
    else M.pure (.nx δ)
noncomputable def sWhile (c : En → M Bool) (body : SF) : SF := fun δ st => open Classical in
  if h : ∃ n, (whileM c body n δ st).isSome = true then whileM c body h.choose δ st else none
theorem ds_while {c : Expr} {b : List Stmt} {fc : En → M Bool} {fb : SF} (hp : PassesOwn (model X.prog X.w) X.A X.env X.xe) (hc : DT X E c fc) (hb : DSs X E b fb) : DSt X E (.While c b [] pos) (sWhile fc fb) := ps_imp (ps_while hp hc hb) fun T σ H ⟨μ, ν, δ, st, S, o⟩ => by
  unfold sWhile at o
  split at o
  case isFalse => exact o.elim
  rename_i h
  generalize h.choose = n at o
  refine ⟨fun m σ' H' => ∃ μ' δ' st', Sit X.K μ' ν δ' st' σ' H' ∧ Out X.K ν E μ' H' (whileM fc fb m δ' st') fun fl st2 μ2 H2 => endsD X.K ν T fl μ2 H2, ⟨n, μ, δ, st, S, o⟩, fun m σ1 H1 ⟨μ1, δ1, st1, S1, o1⟩ => ?_⟩
  cases m with
  | zero => exact o1.elim
  | succ m =>
    refine ⟨μ1, ν, δ1, st1, S1, (Out.fst (m := fc δ1) o1).imp fun b st2 μ2 H2 e2 s2 o2 => ?_⟩
    cases b with
    | false =>
      rw [if_neg (by decide)] at o2 ⊢
      exact o2.ret s2 σ1 (S1.env.ext e2)
    | true =>
      rw [if_pos rfl] at o2 ⊢
      refine ⟨fun σ' H' => ∃ μ' δ' st', Sit X.K μ' ν δ' st' σ' H' ∧ Out X.K ν E μ' H' (whileM fc fb m δ' st') fun fl st2 μ2 H2 => endsD X.K ν T fl μ2 H2, fun σ' H' q => ⟨m, Nat.lt_succ_self m, q⟩, ?_⟩
      refine ⟨μ2, ν, δ1, st2, S1.ext e2 s2, o2.fst.imp fun fl st3 μ3 H3 e3 s3 o3 => ?_⟩
      cases fl with
      | nx δ' => exact fun σ' hσ => ⟨μ3, δ', st3, ⟨s3, hσ⟩, o3⟩
      | ct δ' => exact fun σ' hσ => ⟨μ3, δ', st3, ⟨s3, hσ⟩, o3⟩
      | bk δ' => exact fun σ' hσ => o3.ret s3 σ' hσ
      | rt d => exact o3.ret s3
end
end DL
end
section
namespace DL
open PySem PySem.Spec PyProof.Rows L2
section
open PySem.W
variable {prog : Program} {w : World} {A : Around} {E : Value → Shared → Prop} {s : Shared} {K : Frag} {h₀ : Heap} {C x f : Addr} {ox : Obj} {od : Option Obj} {b tb : Value}
theorem ne_slot : Slot "object" "__ne__" "object.__ne__" :=
  Slot.of (T := "object") (name := "__ne__") (owner := "object") (n := "__ne__") (by rw [typeLookup_type, builtinLookup_eq_fast]; kernel_rfl) (by decide +kernel) (by decide +kernel) (by decide +kernel)
    (.inl (by decide +kernel)) (by rw [isSubtype_type]; kernel_rfl)
theorem ne_own {Q : Value → Shared → Prop} (hu : A.units + 1 < cLine) (X : K.In s.heap) (I : InstAt s.heap x ox C od) (hb : Looks (model prog w) s.heap (typeOf b) tb) (hn : notFirst K C tb = true)
    (hs : findIn K (.ref C) "__eq__" = some (some (.ref f))) (hf : isFn K (.ref f) = true) (hne : findIn K (.ref C) "__ne__" = some (some (.builtin "object.__ne__"))) (hm : mroIn K C (.type "object") = some true)
    (h : wpAny (model prog w) A.in1 (call (.ref f) [.ref x, b]) (PySem.W.BoolBack fun r s' => Q (.bool (!r)) s') E s) : wpAny (model prog w) A (richCompare .NotEq (.ref x) b) Q E s := by
  have entry : wpAny (model prog w) A (call (.builtin "object.__ne__") [.ref x, b]) (fun v s' => ∃ r, v = .bool r ∧ Q (.bool r) s') E s := by
    refine wpAny_call (codeAny_call_builtin ne_slot.plain F.cmpEntry_ne (check_slot F.cmpKind_ne F.cmpSplit_ne (I.type.andThen (looks_mroIn X hm)) (F.cmpArgs_ne _ _) ?_))
    unfold Builtin.«object.__ne__»
    have call1 : ∀ {R : Option Value → Shared → Prop}, (∀ r s', Q (.bool (!r)) s' → R (some (.bool r)) s') → wpAny (model prog w) A.in1 (callSpecialIfBound? (.ref x) (Str.ofString "__eq__") [b]) R E s := fun {R} hR =>
      ifBound_K X I hs hf (wpAny_mono h (fun v s' hv => by
        cases v <;> first | exact hv.elim | exact hR _ _ hv) fun _ _ e => e)
    repeat (first
      | with_reducible refine wpAny_cRoomFor hu ?_
      | (refine wpAny_bind (m := callSpecialIfBound? (.ref x) (Str.ofString "__eq__") [b]) (call1 fun r s' hq => ?_))
      | with_reducible refine wpAny_truthy_bool ?_
      | (refine wpAny_bind (m := truthy (.bool _)) (wpAny_truthy_bool ?_))
      | wp_step)
    all_goals first | exact ⟨_, rfl, ‹_›⟩ | exact ⟨_, rfl, _, rfl, ‹_›⟩ | skip
  have one : wpAny (model prog w) A (tryCompare (.ref x) (cmpInfo .NotEq).2.1 b) (fun r s' => ∃ v, r = some v ∧ Q v s') E s := by
    unfold tryCompare
    refine wpAny_bind ?_
    show wpAny (model prog w) A (callSpecialIfBound? (.ref x) "__ne__" [b]) _ _ _
    simp only [callSpecialIfBound?, bindSpecialIfBound?]
    refine wpAny_holding (wpAny_bind (wpAny_bind (wpAny_bind (I.type.here ((looks_findIn X hne).here ?_)))))
    simp only [ne_slot.bind]
    refine wpAny_bind (wpAny_askSetting (wpAny_ite ?_))
    have fin : ∀ {R : Option Value → Shared → Prop}, (∀ r s', Q (.bool r) s' → R (some (.bool r)) s') → wpAny (model prog w) A (call (.builtin "object.__ne__") ([.ref x] ++ [b]) >>= fun v => pure (some v)) R E s := fun {R} hR => by
      refine wpAny_bind (wpAny_mono entry (fun v s' hv => wpAny_pure ?_) fun _ _ e => e)
      obtain ⟨r, rfl, q⟩ := hv
      exact hR _ _ q
    split
    · exact wpAny_bind (wpAny_pure (wpAny_pure (fin fun r s' q => wpAny_pure ⟨_, rfl, q⟩)))
    · exact wpAny_tryCatch (wpAny_bind (wpAny_pure (wpAny_pure (fin fun r s' q => wpAny_pure ⟨_, rfl, q⟩))))
  unfold richCompare
  simp only [oneThing_ref]
  refine wpAny_holding (wpAny_bind (wpAny_cRoomFor (Nat.lt_of_succ_lt hu) ?_))
  refine wpAny_bind (I.type.here (wpAny_bind (hb.here ?_)))
  split
  · rename_i q
    have e : subIn K tb (.ref C) = some false := by
      rcases Bool.or_eq_true_iff.mp hn with e | e
      · rw [beq_iff_eq.mp e] at q; simp at q
      · exact beq_iff_eq.mp e
    refine wpAny_bind ((looks_subIn X e).here ?_)
    simp only [Bool.false_eq_true, if_false]
    refine wpAny_bind (wpAny_mono one (fun r s' z => ?_) fun _ _ e => e)
    obtain ⟨v, rfl, hq⟩ := z
    exact wpAny_pure hq
  · refine wpAny_bind (wpAny_pure ?_)
    simp only [Bool.false_eq_true, if_false]
    refine wpAny_bind (wpAny_mono one (fun r s' z => ?_) fun _ _ e => e)
    obtain ⟨v, rfl, hq⟩ := z
    exact wpAny_pure hq
end
section
variable {X : Cx} {E : XK} {k : Nat} {f C : Addr} {fd : FuncData} {ps : List Str} {g : List D → M D}
/-- o != x by the class's own __eq__, turned -/
def neOD (C : Addr) (g : List D → M D) (ok : Tg → Bool) (o x : D) : M D := fun st => match tagD st x with
  | some t => if ok t = true then ((ownM C g o [x]).bind fun d => (bD d).bind fun b => M.pure (.bl (!b))) st else none
  | none => none
theorem od_neO {ok : Tg → Bool} (hs : PySem.W.findIn X.K (.ref C) "__eq__" = some (some (.ref f))) (hf : PySem.W.isFn X.K (.ref f) = true) (hne : PySem.W.findIn X.K (.ref C) "__ne__" = some (some (.builtin "object.__ne__"))) (hm : PySem.W.mroIn X.K C (.type "object") = some true)
    (hok : ∀ t, ok t = true → (∀ C, t = .inr C → InsT X.K C) ∧ PySem.W.notFirst X.K C (tgV t) = true)
    (F : FnOk X.prog X.w X.K X.mg X.base (L2.CX X.prog X.w) k f fd ps (spD X.K g)) (hr : Room (k + 1) X.A) (hb : Binds X.K fd ps []) (hx : Passes (L2.CX X.prog X.w) X E) : OpR X (compareOp .NotEq) (rD2 X.K E (neOD C g ok)) := by
  intro pins s σ H x y v u Q I rx ry h
  obtain ⟨μ, ν, dx, dy, st, S, hx1, hy1, o1⟩ := h
  unfold neOD at o1
  split at o1
  case h_2 => exact o1.elim
  rename_i t ht
  split at o1
  case isFalse => exact o1.elim
  rename_i hkt
  obtain ⟨hI, hnf⟩ := hok t hkt
  obtain ⟨a, dd, gs, rfl, ha, o2⟩ := own_rep S hx1 (Out.fst (m := ownM C g dx [dy]) (f := fun d => (bD d).bind fun b => M.pure (D.bl (!b))) o1)
  obtain rfl : v = Value.ref a := rx
  obtain ⟨mA, J, _⟩ := ins_get I.hok ha
  obtain ⟨od, J, _⟩ := J.look
  obtain ⟨P, Z, pp, hxx⟩ := kit_of I ry (tag_rep S hy1 ht hI)
  show wpAny (model X.prog X.w) X.A (richCompare .NotEq (.ref a) u) (EP X pins σ Q) X.xe s
  refine ne_own (tb := tgV t) (by have := hr.units; omega) I.kIn J (Z.ty _ _ I.kIn pp) hnf hs hf hne hm (thn (run_at (A := X.A.in1) (vs := [.ref a, y]) (Q := fun z H' => ∃ b, z = .bl b ∧ Q (.bl (!b)) H') F hr.in1 rfl hb hx I (.cons rfl (.cons ry .nil)) ⟨μ, ν, [dx, dy], st, S, .cons hx1 (.one hy1), o2.imp fun d st1 μ1 H1 e1 s1 o3 w hw => ?_⟩) fun r s' q => ?_)
  · obtain ⟨b, rfl, o4⟩ := bD_rep s1 hw o3.fst
    exact ⟨b, rfl, o4.ret s1 _ to_bl⟩
  · obtain ⟨z, H', I', rz, b, rfl, q⟩ := q
    cases rz
    exact ⟨.bl (!b), H', I', rfl, q⟩
/-- what may stand on the other side: the built-in kinds, and the class itself -/
def okTg (C0 : Addr) (t : Tg) : Bool := match t with
  | .inl t => decide (t ∈ ["NoneType", "bool", "int", "str", "list", "tuple", "dict"])
  | .inr C => decide (C = C0)
theorem okTg_ok {K : PySem.W.Frag} {C0 : Addr} (hI : InsT K C0) (h : ∀ t ∈ ["NoneType", "bool", "int", "str", "list", "tuple", "dict"], PySem.W.subIn K (.type t) (.ref C0) = some false) :
    ∀ t, okTg C0 t = true → (∀ C, t = .inr C → InsT K C) ∧ PySem.W.notFirst K C0 (tgV t) = true := fun t ht => by
  cases t with
  | inl t =>
    refine ⟨(fun C z => by cases z), ?_⟩
    show (Value.type t == Value.ref C0 || PySem.W.subIn K (.type t) (.ref C0) == some false) = true
    rw [h t (of_decide_eq_true ht), Bool.or_eq_true]
    exact .inr (by simp)
  | inr C =>
    have e : C = C0 := of_decide_eq_true ht
    subst e
    refine ⟨(fun C' z => by cases z; exact hI), ?_⟩
    show (Value.ref C == Value.ref C || _) = true
    simp
end
end DL
end
section
namespace DL
open PySem PySem.Spec PyProof.Rows L2
/-! ### a call that only reads the caller's lists: it sees them as plain data, and its result holds no list -/
mutual
def noL : D → Bool
  | .non => true
  | .bl _ => true
  | .int _ => true
  | .str _ => true
  | .tup xs => noLs xs
  | .ins _ fs => noLf fs
  | .fn _ => true
  | _ => false
def noLs : List D → Bool
  | [] => true
  | x :: xs => noL x && noLs xs
def noLf : List (Str × D) → Bool
  | [] => true
  | p :: xs => noL p.2 && noLf xs
end
/-- data as it is seen without a store: its lists are read, all of them -/
def snp (st : Sto) : Nat → D → Option D
  | 0, d => if belowD 0 d = true then some d else none
  | k + 1, d => if belowD 0 d = true then some d else match d with
    | .lst xs => match allM (snp st k) xs with | some ys => some (.lst ys) | none => none
    | .tup xs => match allM (snp st k) xs with | some ys => some (.tup ys) | none => none
    | .obj j => match st[j]? with
      | some (.lst xs) => match allM (snp st k) xs with | some ys => some (.lst ys) | none => none
      | _ => none
    | _ => none
def frzM (r : List D → M D) (ds : List D) : M D := fun st => match allM (snp st 3) ds with
  | some ds' => match r ds' [] with
    | some (.ok d _) => if noL d = true ∧ belowD 0 d = true then some (.ok d st) else none
    | _ => none
  | none => none
section
variable {K : PySem.W.Frag} {μ : Mu} {ν : List Addr} {H H' : Hp} {st : Sto} {E : XK}
mutual
/-- a list stands where something was hidden: what holds no list does not reach it -/
theorem noL_rep {G G' : Hp} {μ' : Mu} (h : ∀ a o, G a = some o → (∀ xs, o ≠ .lst xs) → G' a = some o) : ∀ (d : D) (v : V), noL d = true → Rep K [] G d v → Rep K μ' G' d v
  | .non, v, _, r => r
  | .bl _, v, _, r => r
  | .int _, v, _, r => r
  | .str _, v, _, r => r
  | .fn _, v, _, r => r
  | .tup xs, v, n, r => by
    unfold Rep at r ⊢
    unfold noL at n
    obtain ⟨a, vs, e1, e2, e3, e4⟩ := r
    refine ⟨a, vs, e1, ?_, e3, noL_reps h xs vs n e4⟩
    rcases e2 with (e2 | ⟨o, e2⟩) | e2
    · exact .inl (.inl (h _ _ e2 fun xs z => by cases z))
    · exact .inl (.inr ⟨o, h _ _ e2 fun xs z => by cases z⟩)
    · exact .inr e2
  | .ins C fs, v, n, r => by
    unfold Rep at r ⊢
    unfold noL at n
    obtain ⟨a, dx, gs, e1, e2, e3⟩ := r
    exact ⟨a, dx, gs, e1, h _ _ e2 (fun xs z => by cases z), noL_freps h fs gs n e3⟩
  | .lst _, v, n, r => by unfold noL at n; cases n
  | .fl _, v, n, r => by unfold noL at n; cases n
  | .exc _ _, v, n, r => by unfold noL at n; cases n
  | .dct _, v, n, r => by unfold noL at n; cases n
  | .obj _, v, n, r => by unfold noL at n; cases n
theorem noL_reps {G G' : Hp} {μ' : Mu} (h : ∀ a o, G a = some o → (∀ xs, o ≠ .lst xs) → G' a = some o) : ∀ (ds : List D) (vs : List V), noLs ds = true → Reps K [] G ds vs → Reps K μ' G' ds vs
  | [], vs, _, r => by unfold Reps at r ⊢; exact r
  | d :: ds, vs, n, r => by
    unfold Reps at r ⊢
    unfold noLs at n
    rw [Bool.and_eq_true] at n
    obtain ⟨v, t, e1, e2, e3⟩ := r
    exact ⟨v, t, e1, noL_rep h d v n.1 e2, noL_reps h ds t n.2 e3⟩
theorem noL_freps {G G' : Hp} {μ' : Mu} (h : ∀ a o, G a = some o → (∀ xs, o ≠ .lst xs) → G' a = some o) : ∀ (ds : List (Str × D)) (vs : List (Str × V)), noLf ds = true → FReps K [] G ds vs → FReps K μ' G' ds vs
  | [], vs, _, r => by unfold FReps at r ⊢; exact r
  | d :: ds, vs, n, r => by
    unfold FReps at r ⊢
    unfold noLf at n
    rw [Bool.and_eq_true] at n
    obtain ⟨v, t, e1, e2, e3⟩ := r
    exact ⟨v, t, e1, noL_rep h d.2 v n.1 e2, noL_freps h ds t n.2 e3⟩
end
/-- what stays hidden in such a call: all but the lists -/
noncomputable def kept (μ : Mu) (ν : List Addr) (H : Hp) : List Addr := open Classical in ν ++ (μ.filterMap id).filter fun a => decide (∀ ws, H a ≠ some (.lst ws))
theorem mem_kept {a : Addr} : a ∈ kept μ ν H ↔ a ∈ ν ∨ (some a ∈ μ ∧ ∀ ws, H a ≠ some (.lst ws)) := by
  unfold kept
  rw [List.mem_append, List.mem_filter, List.mem_filterMap]
  simp
theorem kept_sto (S : StoOk K μ ν H st) : StoOk K [] (kept μ ν H) H [] := by
  refine ⟨rfl, (fun i j a h => by simp at h), (fun a h => by cases h), (fun a h => ⟨?_, (fun z => by cases z)⟩), (fun i c h => by simp at h)⟩
  rcases mem_kept.mp h with h | h
  · exact (S.out a h).1
  · exact S.live a h.1
theorem kept_same : Same (hid μ ν H) (hid [] (kept μ ν H) H) := fun a o h => by
  obtain ⟨h1, h2, h3⟩ := hid_some h
  rw [hid_of (fun z => by cases z) fun z => ?_]
  · exact h1
  · rcases mem_kept.mp z with z | z
    · exact h3 z
    · exact h2 z.1
theorem kept_at (S : StoOk K μ ν H st) {i : Nat} {a : Addr} {ws : List V} (h1 : μ[i]? = some (some a)) (h2 : H a = some (.lst ws)) : hid [] (kept μ ν H) H a = some (.lst ws) := by
  rw [hid_of (fun z => by cases z) fun z => ?_]
  · exact h2
  · rcases mem_kept.mp z with z | z
    · exact (S.out a z).2 (mem_of_get h1)
    · exact z.2 _ h2
theorem snp_all {k : Nat} (ih : ∀ (d d' : D) (v : V), snp st k d = some d' → Rep K μ (hid μ ν H) d v → Rep K [] (hid [] (kept μ ν H) H) d' v) : ∀ (xs ys : List D) (vs : List V), allM (snp st k) xs = some ys → Reps K μ (hid μ ν H) xs vs → ys.length = xs.length ∧ Reps K [] (hid [] (kept μ ν H) H) ys vs
  | [], ys, vs, h, r => by
    cases h
    unfold Reps at r
    subst r
    exact ⟨rfl, .nil⟩
  | x :: xs, ys, vs, h, r => by
    obtain ⟨y, ys', rfl, h1, h2⟩ := allM_cons h
    unfold Reps at r
    obtain ⟨v, r', rfl, r1, r2⟩ := r
    obtain ⟨l, q⟩ := snp_all ih xs ys' r' h2 r2
    exact ⟨by rw [List.length_cons, List.length_cons, l], .cons (ih x y v h1 r1) q⟩
theorem snp_rep (S : StoOk K μ ν H st) : ∀ (k : Nat) (d d' : D) (v : V), snp st k d = some d' → Rep K μ (hid μ ν H) d v → Rep K [] (hid [] (kept μ ν H) H) d' v := by
  have flat : ∀ {d : D} {v : V}, belowD 0 d = true → Rep K μ (hid μ ν H) d v → Rep K [] (hid [] (kept μ ν H) H) d v := fun {d v} b r => Rep.mono .refl kept_same d v (below_rep (Nat.zero_le _) d v b r)
  intro k
  induction k with
  | zero =>
    intro d d' v h r
    unfold snp at h
    split at h
    · cases h; exact flat (by assumption) r
    · cases h
  | succ k ih =>
    intro d d' v h r
    unfold snp at h
    split at h
    · cases h; exact flat (by assumption) r
    · split at h
      · split at h
        · rename_i ys hys
          cases h
          unfold Rep at r ⊢
          obtain ⟨a, vs, e1, e2, e3, e4⟩ := r
          obtain ⟨l, q⟩ := snp_all ih _ ys vs hys e4
          exact ⟨a, vs, e1, kept_same _ _ e2, by rw [l]; exact e3, q⟩
        · cases h
      · split at h
        · rename_i ys hys
          cases h
          unfold Rep at r ⊢
          obtain ⟨a, vs, e1, e2, e3, e4⟩ := r
          obtain ⟨l, q⟩ := snp_all ih _ ys vs hys e4
          exact ⟨a, vs, e1, sqT_same kept_same e2, by rw [l]; exact e3, q⟩
        · cases h
      · split at h
        · rename_i xs hc
          split at h
          · rename_i ys hys
            cases h
            obtain ⟨⟨a, vs, h1, h2, h3, h4⟩, hv⟩ := S.obj r hc
            obtain ⟨l, q⟩ := snp_all ih _ ys vs hys h4
            unfold Rep
            exact ⟨a, vs, hv a h1, kept_at S h1 h2, by rw [l]; exact h3, q⟩
          · cases h
        · cases h
      · cases h
/-- such a call, seen from outside -/
theorem frz_out {r : List D → M D} {ds : List D} {vs : List V} {Q : VK} (S : StoOk K μ ν H st) (hr : Reps K μ (hid μ ν H) ds vs) (o : Out K ν E μ H (frzM r ds st) fun d st' μ' H' => ∀ v, Rep K μ' (hid μ' ν H') d v → Q v H') :
    ∃ ν' ds', StoOk K [] ν' H [] ∧ Reps K [] (hid [] ν' H) ds' vs ∧ Out K ν' E [] H (r ds' []) fun d st' μ' H' => ∀ v, Rep K μ' (hid μ' ν' H') d v → Q v H' := by
  unfold frzM at o
  split at o
  case h_2 => exact o.elim
  rename_i ds' hds
  refine ⟨kept μ ν H, ds', kept_sto S, (snp_all (snp_rep S 3) _ _ _ hds hr).2, ?_⟩
  split at o
  case h_2 => exact o.elim
  rename_i d st' hres
  rw [hres]
  split at o
  case isFalse => exact o.elim
  rename_i hn
  intro μ2 H2 e2 s2 v hv
  -- the caller's places are as they were
  have stay : ∀ a, some a ∈ μ → H2 a = H a := fun a ha => by
    by_cases hk : a ∈ kept μ ν H
    · exact e2.out a hk
    · obtain ⟨o, ho⟩ := S.live a ha
      have : hid [] (kept μ ν H) H a = some o := by rw [hid_of (fun z => by cases z) hk]; exact ho
      have := (hid_some (e2.same _ _ this)).1
      rw [this, ho]
  have keepν : ∀ a ∈ ν, H2 a = H a := fun a ha => e2.out a (mem_kept.mpr (.inl ha))
  have ex : Ext ν μ H μ H2 := by
    refine ⟨.refl, fun a o h => ?_, keepν⟩
    obtain ⟨h1, h2, h3⟩ := hid_some h
    have q := (hid_some (e2.same _ _ (kept_same _ _ h))).1
    rw [hid_of h2 h3]
    exact q
  have S2 : StoOk K μ ν H2 st := by
    refine ⟨S.len, S.inj, fun a ha => ?_, fun a ha => ?_, fun i c hc => ?_⟩
    · rw [stay a ha]; exact S.live a ha
    · rw [keepν a ha]; exact S.out a ha
    · exact (S.cell i c hc).stay ex (S.lt hc) fun a ha => ⟨ha, stay a (mem_of_get ha)⟩
  refine o μ H2 ex S2 v ?_
  have r0 : Rep K [] (hid [] (kept μ ν H) H2) d v := take_same (hid_take (n := 0)) (below_rep (Nat.zero_le _) d v hn.2 hv)
  refine noL_rep (fun a o h hnl => ?_) d v hn.1 r0
  obtain ⟨h1, _, h3⟩ := hid_some h
  rw [hid_of (fun ha => ?_) (fun ha => h3 (mem_kept.mpr (.inl ha)))]
  · exact h1
  · by_cases hw : ∀ ws, H a ≠ some (.lst ws)
    · exact h3 (mem_kept.mpr (.inr ⟨ha, hw⟩))
    · obtain ⟨ws, h6⟩ := Classical.not_forall.mp hw
      have h7 := (stay a ha).symm.trans h1
      exact hnl ws (Option.some.inj (h7.symm.trans (Classical.not_not.mp h6)))
/-- C(..) of such arguments -/
noncomputable def eMakeF (C : Addr) (g : List D → M D) (f : En → M (List D)) : EF := fun δ => (f δ).bind (frzM (makeM C g))
theorem make_at {C : Addr} {g : List D → M D} {μ1 : Mu} {H1 : Hp} {xs : List D} {vs : List V} {st1 : Sto} {Q : VK} (s1 : StoOk K μ1 ν H1 st1) (hvs : Reps K μ1 (hid μ1 ν H1) xs vs) (o1 : Out K ν E μ1 H1 (makeM C g xs st1) fun d st' μ' H' => ∀ v, Rep K μ' (hid μ' ν H') d v → Q v H')
    {x dx : Addr} (nx : H1 x = none) (nd : H1 dx = none) (hne : dx ≠ x) : spD K g (.ref x :: vs) (upd (upd H1 dx (.own x)) x (.ins C dx [])) (fun v H2 => v = .non ∧ Q (.ref x) H2) E := by
  have s2 := s1.new (o := .own x) nd
  have e2 := s1.ext_new (o := .own x) nd
  have nx2 : (upd H1 dx (.own x)) x = none := by rw [upd_ne hne.symm]; exact nx
  have e3 : Ext ν μ1 (upd H1 dx (.own x)) (μ1 ++ [some x]) (upd (upd H1 dx (.own x)) x (.ins C dx [])) := hid_push s2 nx2
  have s3 : StoOk K (μ1 ++ [some x]) ν (upd (upd H1 dx (.own x)) x (.ins C dx [])) (st1 ++ [.ins C []]) := by
    refine s2.push nx2 ⟨x, dx, [], ?_, upd_same, by unfold FReps; rfl⟩
    rw [List.getElem?_append_right (Nat.le_refl _), Nat.sub_self]; rfl
  have hx : Rep K (μ1 ++ [some x]) (hid (μ1 ++ [some x]) ν (upd (upd H1 dx (.own x)) x (.ins C dx []))) (.obj st1.length) (.ref x) := by
    unfold Rep
    rw [← s1.len]
    refine ⟨by rw [List.length_append]; exact Nat.lt_succ_self _, fun a e => ?_⟩
    rw [List.getElem?_append_right (Nat.le_refl _), Nat.sub_self] at e
    simp at e
    rw [e]
  refine ⟨μ1 ++ [some x], ν, .obj st1.length :: xs, st1 ++ [.ins C []], s3, .cons hx ((hvs.ext e2).ext e3), ?_⟩
  unfold makeM at o1
  cases hg : g (.obj st1.length :: xs) (st1 ++ [.ins C []]) with
  | none => rw [hg] at o1; exact o1.elim
  | some res =>
    rw [hg] at o1
    cases res with
    | er C' fs st4 => exact fun μ' H' dd e4 s4 hxo => leaveX_rep s1 ((e2.trans e3).trans e4) s4 hxo o1
    | ok d st4 =>
      intro μ' H' e4 s4 v hv
      cases d with
      | non =>
        rw [rep_non hv]
        exact ⟨rfl, leave_rep s1 ((e2.trans e3).trans e4) s4 (hx.ext e4) o1⟩
      | _ => exact o1.elim
theorem tD_makeF {C : Addr} {g : List D → M D} {σ : L2.St} {Q : VK} {f : En → M (List D)} (h : tD K E (eMakeF C g f) σ H Q) : tMake C (spD K g) [] E (tDs K E f) σ H Q := by
  obtain ⟨μ, ν, δ, st, S, o⟩ := h
  refine ⟨μ, ν, δ, st, S, o.fst.imp fun xs st1 μ1 H1 e1 s1 o1 vs hvs => ?_⟩
  obtain ⟨ν', ds', s2, r2, o2⟩ := frz_out s1 hvs o1
  intro x dx nx nd hne
  rw [List.append_nil]
  exact make_at s2 r2 o2 nx nd hne
end
section
variable {X : Cx} {E : XK} {pos : Pos} {k : Nat} {f C : Addr} {fd : FuncData} {ps : List Str} {g : List D → M D}
theorem de_makeF {x : Str} {p : Pos} {e : Expr} {es : List Expr} {fa : En → M (List D)} (M' : Mk X.K C f) (F : FnOk X.prog X.w X.K X.mg X.base (L2.CX X.prog X.w) k f fd ps (spD X.K g)) (hr : Room (k + 1) X.A) (hm : X.mg x = some (.ref C)) (hb : Binds X.K fd ps []) (hx : Passes (L2.CX X.prog X.w) X E) (ha : DA X E (e :: es) fa) (hg : Gl X x := by rfl)
    (hdb : (x == ("__debug__" : Str)) = false := by decide) (he : starEach (e :: es) X.env = (false, eval e X.env) :: starEach es X.env := by rfl) (hpl : (backTo pos (starEach es X.env)).any (·.1) = false := by rfl) :
    DE X E (.Call (.Name x p) (e :: es) [] pos) (eMakeF C g fa) := pe_imp (pe_make M' F hr hg hm hb .nil hx ha hdb he hpl) fun σ H Q h => tD_makeF h
theorem frz_sp {K : PySem.W.Frag} {g : List D → M D} : ∀ vs H Q E, spD K (frzM g) vs H Q E → spD K g vs H Q E := fun vs H Q E ⟨μ, ν, ds, st, S, r, o⟩ => by
  obtain ⟨ν', ds', s2, r2, o2⟩ := frz_out S r o
  exact ⟨[], ν', ds', [], s2, r2, o2⟩
/-! ### o * i by the class's own method, i an int -/
def binOI (C : Addr) (g : List D → M D) (o x : D) : M D := match x with
  | .int i => ownM C g o [.int i]
  | _ => M.no
theorem od_binI {op : Operator} {fo ro : Option Value} (hs : PySem.W.findIn X.K (.ref C) (PySem.dunder op.info.2) = some (some (.ref f))) (hf : PySem.W.isFn X.K (.ref f) = true) (hc : PySem.W.selfFirst X.K C = true) (hr0 : PySem.W.findIn X.K (.ref C) (PySem.dunderR op.info.2) = some none)
    (h1 : PySem.W.findIn X.K (.type "int") (PySem.dunder op.info.2) = some fo) (h2 : PySem.W.findIn X.K (.type "int") (PySem.dunderR op.info.2) = some ro) (hsub : PySem.W.subIn X.K (.type "int") (.ref C) = some false)
    (F : FnOk X.prog X.w X.K X.mg X.base (L2.CX X.prog X.w) k f fd ps (spD X.K g)) (hr : Room k X.A) (hb : Binds X.K fd ps []) (hx : Passes (L2.CX X.prog X.w) X E) : OpR X (binaryOp op) (rD2 X.K E (binOI C g)) := by
  intro pins s σ H x y v u Q I rx ry ⟨μ, ν, dx, dy, st, S, hx1, hy1, o1⟩
  unfold binOI at o1
  split at o1
  case h_2 => exact o1.elim
  rename_i i
  obtain ⟨a, dd, gs, rfl, ha, o2⟩ := own_rep S hx1 o1
  have e := rep_int hy1
  subst e
  obtain ⟨t, rfl⟩ := ry
  obtain rfl : v = Value.ref a := rx
  obtain ⟨mA, J, _⟩ := ins_get I.hok ha
  obtain ⟨od, J, _⟩ := J.look
  obtain ⟨m, hF⟩ := I.fr
  refine PySem.W.ksp_binT (T := "int") hF I.ok.mod.kin J (by rfl) hc hs hf hr0 (.inl rfl) h1 h2 hsub (thn (run_at (vs := [.ref a, .int i]) F hr rfl hb hx I (.cons rfl (.cons ⟨t, rfl⟩ .nil)) ⟨μ, ν, [dx, .int i], st, S, .cons hx1 (.one hy1), o2⟩) fun r s' q => ?_)
  obtain ⟨z, H', I', rz, q⟩ := q
  exact back_of rz ⟨z, H', I', rz, q⟩
/-! ### x[a:b] of a list or a tuple -/
def slA (x : D) (lo hi : Option Int) : M D := fun st => match x with
  | .tup xs => if HT.sIx xs.length 0 lo = 0 ∧ HT.sIx xs.length xs.length hi = xs.length then none else some (.ok (.tup (cutD xs lo hi)) st)
  | x => slD x lo hi st
theorem de_sliceA {e : Expr} {lo hi : Option Expr} {p2 : Pos} {fe : EF} {fl fh : En → M (Option Int)} (he : DE X E e fe) (hl : DP X E lo fl) (hh : DP X E hi fh) : DE X E (.Subscript e (.Slice lo hi none p2) pos) (eSlice slA fe fl fh) :=
  pe_imp (pe_slice (SlR.or sl_list sl_tup) he hl hh) fun σ H Q h => tD_sl (fun S r o => by
    unfold slA at o
    split at o
    · rename_i xs
      split at o
      · exact o.elim
      · rename_i hw
        obtain ⟨a, vs, e1, e2, e3, e4⟩ := asT_rep r rfl
        refine .inr ⟨a, vs, e1, e2, by rw [← e4.len]; exact hw, fun p hp => o.go rfl (S.ext_new hp) (S.new hp) _ (rep_tup S hp (Nat.le_trans cut_len e3) (cut_rep e4))⟩
    · unfold slD at o
      split at o
      · rename_i xs hx
        obtain ⟨a, vs, e1, e2, e3, e4⟩ := asL_rep S r hx
        exact .inl ⟨a, vs, e1, e2, fun p hp => o.go rfl (S.ext_new hp) (S.new hp) _ (rep_lst S hp (Nat.le_trans cut_len e3) (cut_rep e4))⟩
      · exact o.elim) h
end
end DL
end
section
namespace DL
open PySem PySem.Spec PyProof.Rows L2
section
variable {X : Cx} {E : XK} {pos : Pos}
/-! ### sorted(..) of whole numbers -/
def insI (x : Int) : List Int → List Int
  | [] => [x]
  | y :: l => if x ≤ y then x :: y :: l else y :: insI x l
def srtI : List Int → List Int
  | [] => []
  | x :: l => insI x (srtI l)
theorem insI_perm {x : Int} : ∀ {l : List Int}, (insI x l).Perm (x :: l)
  | [] => .refl _
  | y :: l => by
    unfold insI
    split
    · exact .refl _
    · exact (insI_perm.cons y).trans (.swap x y l)
theorem srtI_perm : ∀ {l : List Int}, (srtI l).Perm l
  | [] => .refl _
  | x :: l => insI_perm.trans (srtI_perm.cons x)
theorem insI_up {x : Int} : ∀ {l : List Int}, l.Pairwise (· ≤ ·) → (insI x l).Pairwise (· ≤ ·)
  | [], _ => List.pairwise_singleton _ _
  | y :: l, h => by
    obtain ⟨h1, h2⟩ := List.pairwise_cons.mp h
    unfold insI
    split
    · rename_i hxy
      refine List.pairwise_cons.mpr ⟨fun z hz => ?_, h⟩
      rcases List.mem_cons.mp hz with rfl | hz
      · exact hxy
      · exact Int.le_trans hxy (h1 z hz)
    · rename_i hxy
      refine List.pairwise_cons.mpr ⟨fun z hz => ?_, insI_up h2⟩
      rcases List.mem_cons.mp (insI_perm.mem_iff.mp hz) with rfl | hz
      · omega
      · exact h1 z hz
theorem srtI_up : ∀ {l : List Int}, (srtI l).Pairwise (· ≤ ·)
  | [] => .nil
  | x :: l => insI_up srtI_up
theorem srtI_only {l ns : List Int} (p : ns.Perm l) (h : ns.Pairwise (· ≤ ·)) : ns = srtI l :=
  List.Perm.eq_of_pairwise (fun a b _ _ h1 h2 => Int.le_antisymm h1 h2) h srtI_up (p.trans srtI_perm.symm)
theorem reps_int_back {K : PySem.W.Frag} {μ : Mu} {G : Hp} : ∀ {ns : List Int}, Reps K μ G (ns.map D.int) (ns.map V.int)
  | [] => by unfold List.map Reps; rfl
  | n :: ns => by
    rw [List.map_cons, List.map_cons]
    unfold Reps
    exact ⟨_, _, rfl, to_int, reps_int_back⟩
def sortD (ds : List D) : M D := fun st => match ds with
  | [d] => match asL st d with
    | some xs => match asInts xs with
      | some ns => some (.ok (.lst ((srtI ns).map D.int)) st)
      | none => none
    | none => none
  | _ => none
theorem cd_sort : CallR X (.builtin "sorted") (rDs X.K E sortD) := callR_imp cr_sortedI fun xs H Q ⟨μ, ν, ds, st, S, r, o⟩ => by
  unfold sortD at o
  split at o
  · obtain ⟨v, rfl, h⟩ := reps_one r
    split at o
    · rename_i hx
      split at o
      · rename_i bs hb
        obtain ⟨a, vs, rfl, e2, e3, e4⟩ := asL_rep S h hx
        rw [asInts_eq hb] at e4 e3
        rw [reps_ints e4] at e2
        refine ⟨a, bs, rfl, e2, fun ns' p pm up hp => ?_⟩
        rw [srtI_only pm up]
        have hl : ((srtI bs).map D.int).length ≤ sizeLine := by
          rw [List.length_map, srtI_perm.length_eq]
          rwa [List.length_map] at e3
        exact o.go rfl (S.ext_new hp) (S.new hp) _ (rep_lst S hp hl reps_int_back)
      · exact o.elim
    · exact o.elim
  · exact o.elim
/-! ### list(range(n)), to be changed -/
def rngLN (d : D) : M D := fun st => match d with
  | .int n => if -(2 ^ 62) ≤ n ∧ n ≤ 1000000 then some (.ok (.obj st.length) (st ++ [.lst (rngD 0 n.toNat)])) else none
  | _ => none
def eListR1N (f : EF) : EF := fun δ => (f δ).bind rngLN
theorem de_listR1N {e : Expr} {fe : EF} {p p2 pos2 : Pos} (hm : X.mg "list" = none) (hm2 : X.mg "range" = none) (he : DE X E e fe) (hc : X.calm = true := by rfl) (hg : Gl X "list" := by rfl) (hg2 : Gl X "range" := by rfl)
    (na : starEach [e] X.env = (false, eval e X.env) :: starEach [] X.env := by rfl) (nb : starEach [.Call (.Name "range" p2) [e] [] pos2] X.env = (false, eval (.Call (.Name "range" p2) [e] [] pos2) X.env) :: starEach [] X.env := by rfl) :
    DE X E (.Call (.Name "list" p) [.Call (.Name "range" p2) [e] [] pos2] [] pos) (eListR1N fe) := pe_imp (pe_listRg hc hg hm (prg_1 hg2 hm2 he na) nb) fun σ H Q ⟨μ, ν, δ, st, S, o⟩ => by
  refine ⟨μ, ν, δ, st, S, o.fst.imp fun d st1 μ1 H1 e1 s1 o1 v hv => ?_⟩
  unfold rngLN at o1
  split at o1
  · rename_i n
    split at o1
    · rename_i hn
      have big : (1000000 : Int) < 2 ^ 62 := by decide
      refine ⟨n, rep_int hv, ⟨by decide, by decide, hn.1, Int.lt_of_le_of_lt hn.2 big, ?_⟩, fun q hq => ?_⟩
      · have : (n - 0).toNat ≤ 1000000 := by omega
        exact Nat.le_trans this (by decide)
      · have hl : (rngD 0 n.toNat).length ≤ sizeLine := by
          rw [rngD_len]
          have : n.toNat ≤ 1000000 := by omega
          exact Nat.le_trans this (by decide)
        obtain ⟨t1, t2, t3⟩ := sto_lst s1 hq hl rgV_reps
        exact o1.go rfl t2 t1 _ t3
    · exact o1.elim
  · exact o1.elim
/-! ### max(xs) of whole numbers -/
def mxI : List Int → Int
  | [] => 0
  | x :: l => l.foldl max x
theorem foldl_max_ge : ∀ {l : List Int} {x : Int}, x ≤ l.foldl max x ∧ ∀ y ∈ l, y ≤ l.foldl max x
  | [], x => ⟨Int.le_refl _, nofun⟩
  | z :: l, x => by
    obtain ⟨h1, h2⟩ := foldl_max_ge (l := l) (x := max x z)
    rw [List.foldl_cons]
    refine ⟨by omega, fun y hy => ?_⟩
    rcases List.mem_cons.mp hy with rfl | hy
    · omega
    · exact h2 y hy
theorem foldl_max_mem : ∀ {l : List Int} {x : Int}, l.foldl max x = x ∨ l.foldl max x ∈ l
  | [], x => .inl rfl
  | z :: l, x => by
    rw [List.foldl_cons]
    rcases foldl_max_mem (l := l) (x := max x z) with h | h
    · rw [h]
      rcases (show max x z = x ∨ max x z = z by omega) with h | h
      · exact .inl h
      · rw [h]; exact .inr List.mem_cons_self
    · exact .inr (List.mem_cons_of_mem _ h)
theorem mxI_only {ns : List Int} {m : Int} (h0 : 0 < ns.length) (h1 : m ∈ ns) (h2 : ∀ y, y ∈ ns → y ≤ m) : m = mxI ns := by
  cases ns with
  | nil => exact absurd h0 (Nat.lt_irrefl _)
  | cons x l =>
    show m = l.foldl max x
    have g := foldl_max_ge (l := l) (x := x)
    have a : m ≤ l.foldl max x := by
      rcases List.mem_cons.mp h1 with rfl | h1
      · exact g.1
      · exact g.2 m h1
    have b : l.foldl max x ≤ m := by
      rcases foldl_max_mem (l := l) (x := x) with e | e
      · rw [e]; exact h2 x List.mem_cons_self
      · exact h2 _ (List.mem_cons_of_mem _ e)
    omega
def maxLD (ds : List D) : M D := fun st => match ds with
  | [d] => match asL st d with
    | some xs => match asInts xs with
      | some ns => if 0 < ns.length then some (.ok (.int (mxI ns)) st) else none
      | none => none
    | none => none
  | _ => none
theorem cd_maxL (hc : X.calm = true) : CallR X (.builtin "max") (rDs X.K E maxLD) := callR_imp (cr_max hc) fun xs H Q ⟨μ, ν, ds, st, S, r, o⟩ => by
  unfold maxLD at o
  split at o
  · obtain ⟨v, rfl, h⟩ := reps_one r
    split at o
    · rename_i hx
      split at o
      · rename_i bs hb
        split at o
        · rename_i h0
          obtain ⟨a, vs, rfl, e2, e3, e4⟩ := asL_rep S h hx
          rw [asInts_eq hb] at e4
          rw [reps_ints e4] at e2
          refine ⟨a, bs, rfl, e2, h0, fun m g1 g2 => ?_⟩
          rw [mxI_only h0 g1 g2]
          exact o.now S _ to_int
        · exact o.elim
      · exact o.elim
    · exact o.elim
  · exact o.elim
/-! ### len(set(xs)) of fewer than 64 whole numbers -/
def metL (ns : List Int) : List Int := firstMet (fun i => ns.getD i 0) ns.length
def lenSetD (x : D) : M D := fun st => match asL st x with
  | some xs => match asInts xs with
    | some ns => if ns.length < 64 then some (.ok (.int (metL ns).length) st) else none
    | none => none
  | none => none
def eLenSet (fa : EF) : EF := fun δ => (fa δ).bind lenSetD
theorem metL_len {ns : List Int} : (metL ns).length ≤ ns.length := by
  unfold metL
  have key : ∀ m, (firstMet (fun i => ns.getD i 0) m).length ≤ m := fun m => by
    induction m with
    | zero => exact Nat.le_refl _
    | succ m ih =>
      rw [firstMet_succ]
      unfold step_dedup
      split
      · omega
      · rw [List.length_append]
        exact Nat.succ_le_succ ih
  exact key _
def tLS (K : PySem.W.Frag) (ta : TE) : TE := fun σ H Q => ta σ H fun x H1 => ∃ (l : Addr) (ns : List Int), x = V.ref l ∧ SqL K H1 l (ns.map V.int) ∧ ns.length < 64 ∧ Q (.int (metL ns).length) H1
theorem pe_lenSetA {a : Expr} {ta : TE} {p p2 q pos : Pos} (hc : X.calm = true) (g1 : Gl X "len") (m1 : X.mg "len" = none) (g2 : Gl X "set") (m2 : X.mg "set" = none) (pa : PE X a ta)
    (na : starEach [a] X.env = (false, eval a X.env) :: starEach [] X.env := by rfl) : PE X (.Call (.Name "len" p) [.Call (.Name "set" p2) [a] [] q] [] pos) (tLS X.K ta) := by
  refine ⟨fun pins s σ H Q J h => ?_⟩
  refine Call_ (ld_blt J g1 m1 PySem.boot_len ?_)
  refine PyProof.Rows.callWith_builtin1 (PyProof.Rows.args_cons ?_ rfl) rfl rfl
  refine Call_ (ld_blt J g2 m2 PyProof.Rows.boot_set ?_)
  refine PyProof.Rows.callWith_type1 (PyProof.Rows.args_cons (thn (pa.run pins s σ H _ J h) fun v s1 ⟨x, H1, J1, r1, w⟩ => PyProof.Rows.args_nil ?_) na) na rfl
  obtain ⟨l, ns, rfl, hq, h1, w⟩ := w
  cases r1
  obtain ⟨its, r, pl, hz⟩ := J1.list hq
  have hsz : its.toArray.size = ns.length := by rw [List.size_toArray, ← r.length, List.length_map]
  refine call_set_list (J1.ok.hd hc) pl.isList (ns := ns) (by simpa using r.ints) (by unfold scanBound; omega) fun h' tk hS hk => ?_
  rw [hsz] at hS
  refine PyProof.Rows.args_nil ?_
  obtain ⟨o, es, ep, t, ho, hex, hd, _, _, _, hf, hn⟩ := hS
  have J2 : Inv X pins σ H1 { s1 with heap := h', toks := tk } := J1.kept fun b o e => hk b o (Heap.lt_size e) e
  have hle := metL_len (ns := ns)
  have hn2 : es.size = (metL ns).length := hn
  refine call_len_set ho hex hd hf (by rw [hn2] <;> omega) ⟨.int (metL ns).length, H1, J2.tok _, ⟨_, by rw [hn2]⟩, w⟩
theorem de_lenSet {a : Expr} {fa : EF} {p p2 q : Pos} (hc : X.calm = true) (g1 : Gl X "len") (m1 : X.mg "len" = none) (g2 : Gl X "set") (m2 : X.mg "set" = none) (ha : DE X E a fa)
    (na : starEach [a] X.env = (false, eval a X.env) :: starEach [] X.env := by rfl) : DE X E (.Call (.Name "len" p) [.Call (.Name "set" p2) [a] [] q] [] pos) (eLenSet fa) :=
  pe_imp (pe_lenSetA hc g1 m1 g2 m2 ha na) fun σ H Q ⟨μ, ν, δ, st, S, o⟩ => by
    refine ⟨μ, ν, δ, st, S, o.fst.imp fun x st1 μ1 H1 e1 s1 o1 v hv => ?_⟩
    unfold lenSetD at o1
    split at o1
    · rename_i hx
      split at o1
      · rename_i ns hb
        split at o1
        · rename_i hl
          obtain ⟨a, vs, rfl, e2, e3, e4⟩ := asL_rep s1 hv hx
          rw [asInts_eq hb] at e4
          rw [reps_ints e4] at e2
          exact ⟨a, ns, rfl, e2, hl, o1.now s1 _ to_int⟩
        · exact o1.elim
      · exact o1.elim
    · exact o1.elim
end
end DL
end
section
namespace DL
open PySem PySem.Spec PyProof.Rows L2
section
variable {X : Cx} {E : XK} {pos : Pos}
/-- what a new list of a comprehension must do -/
def NewL (K : PySem.W.Frag) (ν : List Addr) (μ : Mu) (H : Hp) (Q : VK) (r : List D) (st' : Sto) (μ' : Mu) (H' : Hp) : Prop := ∀ Dd ws, StoOk K μ' ν H' st' → Ext ν μ H μ' H' → H' Dd = none → r.length ≤ sizeLine → Reps K μ' (hid μ' ν H') r ws → Q (.ref Dd) (upd H' Dd (.lst ws))
theorem tD_lcZ2 {K : PySem.W.Frag} {it : ItF} {g : TgF} {vs : List Nat} {t : TG} {tt : En → M Bool} {el : EF} {σ : L2.St} {H : Hp} {Q : VK} {μ : Mu} {ν : List Addr} {δ : En} {st : Sto} (hg : CG K vs t g) (S : Sit K μ ν δ st σ H)
    (o : Out K ν E μ H (eLcM it g vs tt el δ st) (NewL K ν μ H Q)) : tLc (tDI K E it) t (tDb K E0 tt) (tD K E0 el) vs σ H Q := by
  refine ⟨μ, ν, δ, st, S, o.fst.imp fun xs st1 μ1 H1 e1 s1 o1 J G Dd hD => ?_⟩
  have S1 := S.ext e1 s1
  have ndν : Dd ∉ ν := (s1.fresh hD).2
  have o2 := o1
  split at o2
  case isFalse => exact o2.elim
  rename_i hxl
  have o2 := o2.noer
  -- the invariant: H without Dd
  refine ⟨fun i m H' => ∃ μ' st' acc ws, StoOk K μ' ν (rem Dd H') st' ∧ Ext ν μ1 H1 μ' (rem Dd H') ∧ H' Dd = some (.lst ws) ∧ Reps K μ' (hid μ' ν (rem Dd H')) acc ws ∧ m = xs.length - i ∧ i ≤ xs.length ∧ acc.length ≤ i ∧
      Out K ν E0 μ' (rem Dd H') (lcM g tt el (wipeD δ vs) (xs.drop i) st') fun r st2 μ2 H2 => Ext ν μ1 H1 μ2 H2 → NewL K ν μ H Q (acc ++ r) st2 μ2 H2,
    ⟨_, μ1, st1, [], [], by rw [rem_upd hD]; exact s1, by rw [rem_upd hD]; exact .refl, upd_same, .nil, rfl, Nat.zero_le _, Nat.zero_le _, by rw [rem_upd hD]; exact o2.imp fun r st2 μ2 H2 _ _ q _ => q⟩, fun i m H2 hW => ?_⟩
  obtain ⟨μ2, st2, acc, ws, s2, e2, hd, hacc, rfl, hi, hal, o3⟩ := hW
  have U2 := sto_unrem s2 hd ndν
  have E2 : MuExt μ1 μ2 := e2.mu
  have X2 : Same (hid μ1 ν H1) (hid μ2 (Dd :: ν) H2) := by rw [hid_rem]; exact e2.same
  have sn : Seen ν μ1 H1 (Dd :: ν) μ2 H2 := ⟨E2, X2⟩
  by_cases hlt : i < xs.length
  · refine .inr ⟨G.go i _ μ2 H2 sn hlt, _, fun H' q => ⟨xs.length - (i + 1), by omega, q⟩, fun x H4 hy => ?_⟩
    obtain ⟨d, hd1, e4, s4, hx⟩ := G.yld i _ μ2 H2 st2 x H4 sn U2 hlt hy
    rw [List.drop_eq_getElem_cons hlt] at o3
    obtain rfl : xs[i] = d := by rw [List.getElem?_eq_getElem hlt] at hd1; exact Option.some.inj hd1
    have o4 := (Out.ext o3 (ext_rem e4)).fst
    have S4 : Sit K μ2 (Dd :: ν) (wipeD δ vs) st2 (L2.wipe σ vs) H4 := ⟨s4, by
      have := (S1.env.mono E2 X2).ext e4
      exact SimE.wipe this vs⟩
    have hd4 : H4 Dd = some (.lst ws) := by rw [e4.out Dd (List.mem_cons_self)]; exact hd
    have hacc4 : Reps K μ2 (hid μ2 (Dd :: ν) H4) acc ws := by
      have q := hacc
      rw [← hid_rem] at q
      exact q.ext e4
    refine hg.run S4 hx wipe_wipe ((o4.beside (a := Dd) ndν).imp fun δ5 st5 μ5 H5 e5 s5 o5 σ5 hσ5 hw5 => ⟨hw5, ?_⟩)
    refine ⟨μ5, Dd :: ν, δ5, st5, ⟨s5, hσ5⟩, (o5.1.fst.beside (a := Dd) ndν).imp fun b st6 μ6 H6 e6 s6 o6 => ?_⟩
    have e2' : Ext ν μ1 H1 μ6 (rem Dd H6) := ((e2.trans (ext_rem e4)).trans (ext_rem e5)).trans (ext_rem e6)
    have hd6 : H6 Dd = some (.lst ws) := by rw [e6.out Dd (List.mem_cons_self), e5.out Dd (List.mem_cons_self)]; exact hd4
    have hacc6 := (hacc4.ext e5).ext e6
    have o6 := o6.1
    cases b with
    | false =>
      rw [if_neg (by decide)] at o6
      refine (if_neg (by decide)).mpr ?_
      exact ⟨μ6, st6, acc, ws, sto_rem s6 ndν, e2', hd6, by rw [← hid_rem]; exact hacc6, rfl, hlt, Nat.le_succ_of_le hal, o6⟩
    | true =>
      rw [if_pos rfl] at o6
      refine (if_pos rfl).mpr ?_
      refine ⟨μ6, Dd :: ν, δ5, st6, ⟨s6, hσ5.ext e6⟩, (o6.fst.beside (a := Dd) ndν).imp fun y st7 μ7 H7 e7 s7 o7 v hv => ?_⟩
      have hd7 : H7 Dd = some (.lst ws) := by rw [e7.out Dd (List.mem_cons_self)]; exact hd6
      have hacc7 := hacc6.ext e7
      have o7 := o7.1.fst
      refine ⟨ws, hd7, by rw [← hacc7.len]; omega, μ7, st7, acc ++ [y], ws ++ [v], ?_, ?_, upd_same, ?_, rfl, hlt, by rw [List.length_append, List.length_singleton]; omega, ?_⟩
      · rw [rem_upd']; exact sto_rem s7 ndν
      · rw [rem_upd']; exact e2'.trans (ext_rem e7)
      · rw [rem_upd', ← hid_rem]; exact hacc7.append (.one hv)
      · rw [rem_upd']
        refine o7.imp fun r st8 μ8 H8 e8 s8 o8 => ?_
        have q := o8.ret s8
        rw [List.append_assoc]
        exact q
  · have hz : i = xs.length := by omega
    subst hz
    rw [List.drop_length] at o3
    refine .inl ⟨G.stop _ μ2 H2 sn, ?_⟩
    have o4 := o3.ret s2
    rw [List.append_nil] at o4
    have hrem : rem Dd H2 Dd = none := rem_same
    have q := o4 e2 Dd ws s2 (e1.trans e2) hrem (by omega) hacc
    rw [upd_rem hd] at q
    exact q
/-! ### a comprehension over lists of the store: it sees them, and all names, as plain data -/
noncomputable def snpE (st : Sto) (δ : En) : En := δ.map fun o => o.bind (snp st 3)
noncomputable def eLcZ (it : ItF) (g : TgF) (vs : List Nat) (tt : En → M Bool) (el : EF) : EF := fun δ st => match eLcM it g vs tt el (snpE st δ) [] with
  | some (.ok r _) => if noLs r = true ∧ belowDs 0 r = true then some (.ok (.lst r) st) else none
  | _ => none
section
variable {K : PySem.W.Frag} {μ : Mu} {ν : List Addr} {H H' : Hp} {st : Sto}
theorem snpE_sim (S : StoOk K μ ν H st) : ∀ (δ : En) (σ : L2.St), SimE K μ (hid μ ν H) δ σ → SimE K [] (hid [] (kept μ ν H) H) (snpE st δ) σ
  | [], σ, h => h
  | none :: δ, σ, ⟨v, r, e, h⟩ => ⟨v, r, e, snpE_sim S δ r h⟩
  | some d :: δ, σ, ⟨v, r, e, h1, h2⟩ => by
    show SimE K [] (hid [] (kept μ ν H) H) ((some d).bind (snp st 3) :: snpE st δ) σ
    cases q : snp st 3 d with
    | none =>
      rw [show (some d).bind (snp st 3) = none from q]
      exact ⟨some v, r, e, snpE_sim S δ r h2⟩
    | some d' =>
      rw [show (some d).bind (snp st 3) = some d' from q]
      exact ⟨v, r, e, snp_rep S 3 d d' v q h1, snpE_sim S δ r h2⟩
/-- the store after what only looked at it -/
theorem kept_back {μ2 : Mu} {H2 : Hp} (S : StoOk K μ ν H st) (e2 : Ext (kept μ ν H) [] H μ2 H2) : (∀ a, some a ∈ μ → H2 a = H a) ∧ Ext ν μ H μ H2 ∧ StoOk K μ ν H2 st := by
  have stay : ∀ a, some a ∈ μ → H2 a = H a := fun a ha => by
    by_cases hk : a ∈ kept μ ν H
    · exact e2.out a hk
    · obtain ⟨o, ho⟩ := S.live a ha
      have : hid [] (kept μ ν H) H a = some o := by rw [hid_of (fun z => by cases z) hk]; exact ho
      have := (hid_some (e2.same _ _ this)).1
      rw [this, ho]
  have keepν : ∀ a ∈ ν, H2 a = H a := fun a ha => e2.out a (mem_kept.mpr (.inl ha))
  have ex : Ext ν μ H μ H2 := by
    refine ⟨.refl, fun a o h => ?_, keepν⟩
    obtain ⟨h1, h2, h3⟩ := hid_some h
    have q := (hid_some (e2.same _ _ (kept_same _ _ h))).1
    rw [hid_of h2 h3]
    exact q
  refine ⟨stay, ex, S.len, S.inj, fun a ha => ?_, fun a ha => ?_, fun i c hc => ?_⟩
  · rw [stay a ha]; exact S.live a ha
  · rw [keepν a ha]; exact S.out a ha
  · exact (S.cell i c hc).stay ex (S.lt hc) fun a ha => ⟨ha, stay a (mem_of_get ha)⟩
theorem tD_eLcZ {it : ItF} {g : TgF} {vs : List Nat} {t : TG} {tt : En → M Bool} {el : EF} {σ : L2.St} {Q : VK} (hg : CG K vs t g) (h : tD K E (eLcZ it g vs tt el) σ H Q) : tLc (tDI K E it) t (tDb K E0 tt) (tD K E0 el) vs σ H Q := by
  obtain ⟨μ, ν, δ, st, S, o⟩ := h
  refine tD_lcZ2 hg (μ := []) (ν := kept μ ν H) (δ := snpE st δ) (st := []) ⟨kept_sto S.sto, snpE_sim S.sto δ σ S.env⟩ ?_
  unfold eLcZ at o
  split at o
  case h_2 => exact o.elim
  rename_i r st' hres
  rw [hres]
  split at o
  case isFalse => exact o.elim
  rename_i hn
  intro μ2 H2 e2 s2 Dd ws _ _ hD hl hr
  obtain ⟨stay, ex, S2⟩ := kept_back S.sto e2
  refine o μ (upd H2 Dd (.lst ws)) (ex.trans (S2.ext_new hD)) (S2.new hD) (.ref Dd) (rep_lst S2 hD hl ?_)
  have r0 : Reps K [] (hid [] (kept μ ν H) H2) r ws := Reps.mono .refl (hid_take (n := 0)) r ws (below_reps (Nat.zero_le _) r ws hn.2 hr)
  refine noL_reps (fun a o h hnl => ?_) r ws hn.1 r0
  obtain ⟨h1, _, h3⟩ := hid_some h
  rw [hid_of (fun ha => ?_) (fun ha => h3 (mem_kept.mpr (.inl ha)))]
  · exact h1
  · by_cases hw : ∀ ws, H a ≠ some (.lst ws)
    · exact h3 (mem_kept.mpr (.inr ⟨ha, hw⟩))
    · obtain ⟨ws, h6⟩ := Classical.not_forall.mp hw
      have h7 := (stay a ha).symm.trans h1
      exact hnl ws (Option.some.inj (h7.symm.trans (Classical.not_not.mp h6)))
end
theorem de_lcZ {elt tg iter : Expr} {ifs : List Expr} {scope : Scope} {own : List (Str × Nat)} {it : ItF} {g : TgF} {t : TG} {tt : En → M Bool} {el : EF} (hc : X.calm = true) (hN : X.N.Nodup) (hi : DI X E tg iter it) (ok : BlkOk X.N X.env.scope scope own) (hcg : CG X.K (own.map (·.2)) t g)
    (hg : ∀ (s : Shared) (H : Hp) (C : Addr) (cl : List (Str × Addr)) (fp : List Addr), PG (X.blk s H scope (compEnvC scope cl C X.env) fp) tg t) (ht : ∀ (s : Shared) (H : Hp) (C : Addr) (cl : List (Str × Addr)) (fp : List Addr), DTs (X.blk s H scope (compEnvC scope cl C X.env) fp) ifs tt)
    (he : ∀ (s : Shared) (H : Hp) (C : Addr) (cl : List (Str × Addr)) (fp : List Addr), DE (X.blk s H scope (compEnvC scope cl C X.env) fp) E0 elt el) (hs : ∀ x, foldedSetIterable iter X.env x = pure x := by intro _; rfl) :
    DE X E (.ListComp elt [⟨tg, iter, ifs, 0⟩] scope pos) (eLcZ it g (own.map (·.2)) tt el) := pe_imp (pe_lc hc hN hi ok hg ht he hs) fun σ H Q h => tD_eLcZ hcg h
end
end DL
end
section
namespace DL
open PySem PySem.Spec PyProof.Rows L2
section
variable {X : Cx} {E : XK} {pos : Pos}
/-! ### xs.pop(), xs.extend(ys) -/
theorem reps_last {K : PySem.W.Frag} {μ : Mu} {G : Hp} : ∀ {xs : List D} {vs : List V}, Reps K μ G xs vs → Reps K μ G xs.dropLast vs.dropLast
  | [], vs, h => by
    unfold Reps at h
    subst h
    exact .nil
  | [x], vs, h => by
    obtain ⟨v, rfl, hv⟩ := reps_one h
    exact .nil
  | x :: y :: xs, vs, h => by
    unfold Reps at h
    obtain ⟨v, t, rfl, h1, h2⟩ := h
    have h3 := reps_last h2
    unfold Reps at h2
    obtain ⟨w, t, rfl, h4, h5⟩ := h2
    exact .cons h1 h3
def popD (o : D) : M D := fun st => match o with
  | .obj i => match st[i]? with
    | some (.lst xs) => match xs[xs.length - 1]? with
      | some y => some (.ok y (st.set i (.lst xs.dropLast)))
      | none => none
    | _ => none
  | _ => none
def ePop (fo : EF) : EF := fun δ => (fo δ).bind popD
theorem de_pop {o : Expr} {apos : Pos} {fo : EF} (ho : DE X E o fo) (hbase : attributeBase o "pop" X.env (eval o X.env) = eval o X.env := by rfl) (hline : (apos.endLine == pos.line) = true := by rfl) :
    DE X E (.Call (.Attribute o "pop" apos) [] [] pos) (ePop fo) :=
  pe_imp (pe_bm0 PySem.F.plainAttrs_list PySem.F.slot_list_pop PySem.F.type_list_pop mt_pop ho hbase hline) fun σ H Q ⟨μ, ν, δ, st, S, o⟩ => by
    refine ⟨μ, ν, δ, st, S, o.fst.imp fun x st1 μ1 H1 e1 s1 o1 v hv => ?_⟩
    unfold popD at o1
    split at o1
    · rename_i i
      split at o1
      · rename_i xs hc
        split at o1
        · rename_i y hy
          obtain ⟨⟨a, vs, h1, h2, h3, h4⟩, hav⟩ := s1.obj hv hc
          obtain ⟨w, hw1, hw2⟩ := h4.get hy
          have e3 : Ext ν μ1 H1 μ1 (upd H1 a (.lst vs.dropLast)) := (s1.put (c := .dead) h1 trivial).2
          refine ⟨by rw [hav a h1]; exact .inl ⟨rfl, vs, .inl (.inl h2)⟩, a, vs, w, hav a h1, rfl, h2, by rw [← h4.len]; exact hw1, ?_⟩
          have P := s1.put (o := .lst vs.dropLast) (c := .lst xs.dropLast) h1 ⟨a, vs.dropLast, h1, upd_same, by rw [List.length_dropLast]; omega, (reps_last h4).ext e3⟩
          exact o1.go rfl P.2 P.1 _ (hw2.ext e3)
        · exact o1.elim
      · exact o1.elim
    · exact o1.elim
def extD (o d : D) : M D := fun st => match o, d with
  | .obj i, .lst zs => match st[i]? with
    | some (.lst xs) => if xs.length + zs.length ≤ sizeLine then some (.ok .non (st.set i (.lst (xs ++ zs)))) else none
    | _ => none
  | _, _ => none
def eExt (fo fe : EF) : EF := fun δ => (fo δ).bind fun o => (isLO o).bind fun _ => (fe δ).bind fun d => extD o d
theorem reps_app {K : PySem.W.Frag} {μ : Mu} {G : Hp} : ∀ {xs ys : List D} {vs ws : List V}, Reps K μ G xs vs → Reps K μ G ys ws → Reps K μ G (xs ++ ys) (vs ++ ws)
  | [], ys, vs, ws, h, g => by
    unfold Reps at h
    subst h
    exact g
  | x :: xs, ys, vs, ws, h, g => by
    unfold Reps at h
    obtain ⟨v, t, rfl, h1, h2⟩ := h
    exact .cons h1 (reps_app h2 g)
theorem de_extend {o e : Expr} {apos : Pos} {fo fe : EF} (ho : DE X E o fo) (he : DE X E e fe) (hbase : attributeBase o "extend" X.env (eval o X.env) = eval o X.env := by rfl)
    (hfew : ((backTo pos (starEach (e :: []) X.env)).all (fun x => !x.1) && (backToKw pos (keywordEach [] X.env)).all (fun x => x.1.isSome)
      && decide ((e :: []).length + ([] : List Keyword).length + (if ([] : List Keyword).isEmpty then 0 else 1) < 30)) = true := by rfl)
    (hline : (apos.endLine == pos.line) = true := by rfl) (hs : starEach (e :: []) X.env = (false, eval e X.env) :: starEach [] X.env := by rfl) (hplain : (backTo pos (starEach [] X.env)).any (·.1) = false := by rfl) :
    DE X E (.Call (.Attribute o "extend" apos) [e] [] pos) (eExt fo fe) :=
  pe_imp (pe_bm PySem.F.plainAttrs_list PySem.F.slot_list_extend PySem.F.type_list_extend mt_extend ho (pa_cons he pa_nil hs) hbase hfew hline hs hplain) fun σ H Q ⟨μ, ν, δ, st, S, o⟩ => by
    refine ⟨μ, ν, δ, st, S, o.fst.imp fun x st1 μ1 H1 e1 s1 o1 v hv => ?_⟩
    have o2 := o1.fst
    unfold isLO at o2
    split at o2
    · rename_i i
      split at o2
      · rename_i xs hc
        obtain ⟨⟨a, vs, h1, h2, h3, h4⟩, hav⟩ := s1.obj hv hc
        refine ⟨by rw [hav a h1]; exact .inl ⟨rfl, vs, .inl (.inl h2)⟩, ?_⟩
        have o3 := o2.now s1
        refine ⟨μ1, ν, δ, st1, S.ext e1 s1, o3.fst.imp fun d st2 μ2 H2 e2 s2 o4 w hw => ?_⟩
        unfold extD at o4
        split at o4
        · rename_i j zs hj
          cases hj
          split at o4
          · rename_i ys hc2
            split at o4
            · rename_i hl
              obtain ⟨⟨a2, vs2, g1, g2, g3, g4⟩, hav2⟩ := s2.obj (hv.ext e2) hc2
              have hw' := hw
              unfold Rep at hw'
              obtain ⟨b, ws, rfl, k2, k3, k4⟩ := hw'
              have e3 : Ext ν μ2 H2 μ2 (upd H2 a2 (.lst (vs2 ++ ws))) := (s2.put (c := .dead) g1 trivial).2
              refine ⟨a2, b, vs2, ws, hav2 a2 g1, rfl, g2, (hid_some k2).1, by rw [← g4.len, ← k4.len]; exact hl, ?_⟩
              have P := s2.put (o := .lst (vs2 ++ ws)) (c := .lst (ys ++ zs)) g1 ⟨a2, vs2 ++ ws, g1, upd_same, by rw [List.length_append]; exact hl, reps_app (g4.ext e3) (k4.ext e3)⟩
              exact o4.go rfl P.2 P.1 _ to_non
            · exact o4.elim
          · exact o4.elim
        · exact o4.elim
      · exact o2.elim
    · exact o2.elim
/-! ### xs.index(k), xs.count(k) of whole numbers -/
def isAL (o : D) : M Unit := fun st => match asL st o with
  | some _ => some (.ok () st)
  | none => none
def idxD (o y : D) : M D := fun st => match asL st o, y with
  | some xs, .int k => match asInts xs with
    | some ns => if k ∈ ns then some (.ok (.int (ns.idxOf k : Nat)) st) else none
    | none => none
  | _, _ => none
def cntD (o y : D) : M D := fun st => match asL st o, y with
  | some xs, .int k => match asInts xs with
    | some ns => some (.ok (.int (ns.count k : Nat)) st)
    | none => none
  | _, _ => none
def eOpL (r : D → D → M D) (fo fe : EF) : EF := fun δ => (fo δ).bind fun o => (isAL o).bind fun _ => (fe δ).bind fun d => r o d
theorem idx_at : ∀ {ns : List Int} {k : Int}, k ∈ ns → ns[ns.idxOf k]? = some k ∧ ∀ m z, m < ns.idxOf k → ns[m]? = some z → z ≠ k
  | [], k, h => nomatch h
  | x :: ns, k, h => by
    by_cases e : x = k
    · subst e
      have e0 : (x :: ns).idxOf x = 0 := by simp
      rw [e0]
      exact ⟨rfl, fun m z hm => absurd hm (Nat.not_lt_zero _)⟩
    · have hk : k ∈ ns := by
        rcases List.mem_cons.mp h with q | q
        · exact absurd q.symm e
        · exact q
      obtain ⟨h1, h2⟩ := idx_at hk
      have e1 : (x :: ns).idxOf k = ns.idxOf k + 1 := by rw [List.idxOf_cons, beq_eq_false_iff_ne.mpr e]; rfl
      rw [e1]
      refine ⟨by rw [List.getElem?_cons_succ]; exact h1, fun m z hm hz => ?_⟩
      cases m with
      | zero =>
        rw [List.getElem?_cons_zero] at hz
        rw [← Option.some.inj hz]
        exact e
      | succ m => exact h2 m z (by omega) (by rw [List.getElem?_cons_succ] at hz; exact hz)
theorem de_index {o e : Expr} {apos : Pos} {fo fe : EF} (ho : DE X E o fo) (he : DE X E e fe) (hbase : attributeBase o "index" X.env (eval o X.env) = eval o X.env := by rfl)
    (hfew : ((backTo pos (starEach (e :: []) X.env)).all (fun x => !x.1) && (backToKw pos (keywordEach [] X.env)).all (fun x => x.1.isSome)
      && decide ((e :: []).length + ([] : List Keyword).length + (if ([] : List Keyword).isEmpty then 0 else 1) < 30)) = true := by rfl)
    (hline : (apos.endLine == pos.line) = true := by rfl) (hs : starEach (e :: []) X.env = (false, eval e X.env) :: starEach [] X.env := by rfl) (hplain : (backTo pos (starEach [] X.env)).any (·.1) = false := by rfl) :
    DE X E (.Call (.Attribute o "index" apos) [e] [] pos) (eOpL idxD fo fe) :=
  pe_imp (pe_bm PySem.F.plainAttrs_list PySem.F.slot_list_index PySem.F.type_list_index mt_index ho (pa_cons he pa_nil hs) hbase hfew hline hs hplain) fun σ H Q ⟨μ, ν, δ, st, S, o⟩ => by
    refine ⟨μ, ν, δ, st, S, o.fst.imp fun x st1 μ1 H1 e1 s1 o1 v hv => ?_⟩
    have o2 := o1.fst
    unfold isAL at o2
    split at o2
    · rename_i xs hx
      obtain ⟨a, vs, rfl, g2, g3, g4⟩ := asL_rep s1 hv hx
      refine ⟨.inl ⟨rfl, vs, g2⟩, ?_⟩
      have o3 := o2.now s1
      refine ⟨μ1, ν, δ, st1, S.ext e1 s1, o3.fst.imp fun d st2 μ2 H2 e2 s2 o4 w hw => ?_⟩
      unfold idxD at o4
      split at o4
      · rename_i ys k hy
        split at o4
        · rename_i ns hb
          split at o4
          · rename_i hk
            obtain ⟨b, ws, hb1, k2, k3, k4⟩ := asL_rep s2 (hv.ext e2) hy
            cases hb1
            rw [asInts_eq hb] at k4
            rw [reps_ints k4] at k2
            rw [rep_int hw]
            obtain ⟨p1, p2⟩ := idx_at hk
            refine ⟨a, ns.map V.int, .int k, ns.idxOf k, .int k, rfl, rfl, k2, rfl, ?_, ?_, ?_, fun m z' hm hz => ?_, o4.now s2 _ to_int⟩
            · rw [List.all_map]
              exact List.all_eq_true.mpr fun _ _ => rfl
            · rw [List.getElem?_map, p1]; rfl
            · show (k == k) = true
              exact beq_self_eq_true k
            · rw [List.getElem?_map] at hz
              cases q : ns[m]? with
              | none => rw [q] at hz; cases hz
              | some z =>
                rw [q] at hz
                cases hz
                show (z == k) = false
                exact beq_eq_false_iff_ne.mpr (p2 m z hm q)
          · exact o4.elim
        · exact o4.elim
      · exact o4.elim
    · exact o2.elim
theorem de_count {o e : Expr} {apos : Pos} {fo fe : EF} (ho : DE X E o fo) (he : DE X E e fe) (hbase : attributeBase o "count" X.env (eval o X.env) = eval o X.env := by rfl)
    (hfew : ((backTo pos (starEach (e :: []) X.env)).all (fun x => !x.1) && (backToKw pos (keywordEach [] X.env)).all (fun x => x.1.isSome)
      && decide ((e :: []).length + ([] : List Keyword).length + (if ([] : List Keyword).isEmpty then 0 else 1) < 30)) = true := by rfl)
    (hline : (apos.endLine == pos.line) = true := by rfl) (hs : starEach (e :: []) X.env = (false, eval e X.env) :: starEach [] X.env := by rfl) (hplain : (backTo pos (starEach [] X.env)).any (·.1) = false := by rfl) :
    DE X E (.Call (.Attribute o "count" apos) [e] [] pos) (eOpL cntD fo fe) :=
  pe_imp (pe_bm PySem.F.plainAttrs_list PySem.F.slot_list_count PySem.F.type_list_count mt_lcount ho (pa_cons he pa_nil hs) hbase hfew hline hs hplain) fun σ H Q ⟨μ, ν, δ, st, S, o⟩ => by
    refine ⟨μ, ν, δ, st, S, o.fst.imp fun x st1 μ1 H1 e1 s1 o1 v hv => ?_⟩
    have o2 := o1.fst
    unfold isAL at o2
    split at o2
    · rename_i xs hx
      obtain ⟨a, vs, rfl, g2, g3, g4⟩ := asL_rep s1 hv hx
      refine ⟨.inl ⟨rfl, vs, g2⟩, ?_⟩
      have o3 := o2.now s1
      refine ⟨μ1, ν, δ, st1, S.ext e1 s1, o3.fst.imp fun d st2 μ2 H2 e2 s2 o4 w hw => ?_⟩
      unfold cntD at o4
      split at o4
      · rename_i ys k hy
        split at o4
        · rename_i ns hb
          obtain ⟨b, ws, hb1, k2, k3, k4⟩ := asL_rep s2 (hv.ext e2) hy
          cases hb1
          rw [asInts_eq hb] at k4
          rw [reps_ints k4] at k2
          rw [rep_int hw]
          exact ⟨a, ns, k, rfl, rfl, k2, o4.now s2 _ to_int⟩
        · exact o4.elim
      · exact o4.elim
    · exact o2.elim
/-! ### x //= e of a name -/
def ipDv : TIp := fun x y H Q => ∃ i j : Int, x = .int i ∧ y = .int j ∧ (0 < j ∧ j.natAbs < 2 ^ 9000) ∧ Q (.int (i / j)) H
theorem ip_div : PIp X .FloorDiv ipDv := by
  intro pins s σ H x y v u Q J a b h
  obtain ⟨i, j, rfl, rfl, h1, q⟩ := h
  obtain ⟨t, rfl⟩ := a
  obtain ⟨t', rfl⟩ := b
  have hp := wide_div (i := i) h1.1 h1.2 (by decide) (by decide)
  exact ifloordiv_int (by omega) (by rw [Int.fdiv_eq_ediv_of_nonneg i (by omega)]; exact ⟨.int _, H, J.tok _, ⟨_, rfl⟩, q⟩) (.inl (PyProof.noPylong_of_log2 hp.2))
def sAugNdiv (i : Nat) (fe : EF) : SF := fun δ st => match δ[i]? with
  | some (some x) => ((fe δ).bind fun y => (divD x y).bind fun z => M.pure (.nx (δ.set i (some z)))) st
  | _ => none
theorem ds_augNdiv {i : Nat} {x : Str} {e : Expr} {fe : EF} {pos' : Pos} (he : DE X E e fe) (h : ∀ {te : TE}, PE X e te → PS X (.AugAssign (.Name x pos') .FloorDiv e pos) (tAug i te ipDv)) : DSt X E (.AugAssign (.Name x pos') .FloorDiv e pos) (sAugNdiv i fe) :=
  ps_imp (h he) fun T σ H ⟨μ, ν, δ, st, S, o⟩ => by
    unfold sAugNdiv at o
    split at o
    · rename_i d hd
      obtain ⟨v, h1, h2⟩ := S.env.get hd
      refine ⟨v, h1, μ, ν, δ, st, S, o.fst.imp fun y st1 μ1 H1 e1 s1 o1 w hw => ?_⟩
      have o2 := o1.fst
      unfold divD at o2
      split at o2
      · rename_i m n
        split at o2
        · rename_i hn
          exact ⟨m, n, rep_int h2, rep_int hw, hn, (o2.now s1).ret s1 _ ((S.env.ext e1).set to_int)⟩
        · exact o2.elim
      · exact o2.elim
    · exact o.elim
end
end DL
end
section
namespace DL
open PySem PySem.Spec PyProof.Rows L2
/-! ### sorted(set(xs)) of whole numbers -/
def insS (x : Int) : List Int → List Int
  | [] => [x]
  | y :: l => if x < y then x :: y :: l else if x = y then y :: l else y :: insS x l
def sdI : List Int → List Int
  | [] => []
  | x :: l => insS x (sdI l)
theorem insS_mem {x k : Int} : ∀ {l : List Int}, k ∈ insS x l ↔ k = x ∨ k ∈ l
  | [] => by unfold insS; simp
  | y :: l => by
    unfold insS
    split
    · simp
    · split
      · rename_i e; subst e; simp
      · rw [List.mem_cons, insS_mem, List.mem_cons]
        constructor
        · rintro (h | h | h)
          · exact .inr (.inl h)
          · exact .inl h
          · exact .inr (.inr h)
        · rintro (h | h | h)
          · exact .inr (.inl h)
          · exact .inl h
          · exact .inr (.inr h)
theorem sdI_mem {k : Int} : ∀ {l : List Int}, k ∈ sdI l ↔ k ∈ l
  | [] => Iff.rfl
  | x :: l => by
    unfold sdI
    rw [insS_mem, sdI_mem, List.mem_cons]
theorem insS_up {x : Int} : ∀ {l : List Int}, l.Pairwise (· < ·) → (insS x l).Pairwise (· < ·)
  | [], _ => List.pairwise_singleton _ _
  | y :: l, h => by
    obtain ⟨h1, h2⟩ := List.pairwise_cons.mp h
    unfold insS
    split
    · rename_i q
      refine List.pairwise_cons.mpr ⟨fun z hz => ?_, h⟩
      rcases List.mem_cons.mp hz with rfl | hz
      · exact q
      · exact Int.lt_trans q (h1 z hz)
    · split
      · exact h
      · rename_i q1 q2
        refine List.pairwise_cons.mpr ⟨fun z hz => ?_, insS_up h2⟩
        rcases insS_mem.mp hz with rfl | hz
        · omega
        · exact h1 z hz
theorem sdI_up : ∀ {l : List Int}, (sdI l).Pairwise (· < ·)
  | [] => .nil
  | x :: l => insS_up sdI_up
theorem up_only : ∀ {l m : List Int}, l.Pairwise (· < ·) → m.Pairwise (· < ·) → (∀ k, k ∈ l ↔ k ∈ m) → l = m
  | [], [], _, _, _ => rfl
  | [], y :: m, _, _, h => absurd ((h y).mpr List.mem_cons_self) (by simp)
  | x :: l, [], _, _, h => absurd ((h x).mp List.mem_cons_self) (by simp)
  | x :: l, y :: m, a, b, h => by
    obtain ⟨a1, a2⟩ := List.pairwise_cons.mp a
    obtain ⟨b1, b2⟩ := List.pairwise_cons.mp b
    have e : x = y := by
      rcases List.mem_cons.mp ((h x).mp List.mem_cons_self) with e | hx
      · exact e
      · rcases List.mem_cons.mp ((h y).mpr List.mem_cons_self) with e | hy
        · exact e.symm
        · have := b1 x hx
          have := a1 y hy
          omega
    subst e
    congr 1
    refine up_only a2 b2 fun k => ⟨fun hk => ?_, fun hk => ?_⟩
    · rcases List.mem_cons.mp ((h k).mp (List.mem_cons_of_mem _ hk)) with e | hk2
      · have := a1 k hk; omega
      · exact hk2
    · rcases List.mem_cons.mp ((h k).mpr (List.mem_cons_of_mem _ hk)) with e | hk2
      · have := b1 k hk; omega
      · exact hk2
theorem sdI_only {l ns : List Int} (h : ns.Pairwise (· < ·)) (m : ∀ k, k ∈ ns ↔ k ∈ l) : ns = sdI l :=
  up_only h sdI_up fun k => (m k).trans sdI_mem.symm
theorem sdI_len : ∀ {l : List Int}, (sdI l).length ≤ l.length
  | [] => Nat.le_refl _
  | x :: l => by
    have q : ∀ {l : List Int}, (insS x l).length ≤ l.length + 1 := fun {l} => by
      induction l with
      | nil => exact Nat.le_refl _
      | cons y l ih =>
        unfold insS
        split
        · exact Nat.le_refl _
        · split
          · exact Nat.le_succ _
          · exact Nat.succ_le_succ ih
    exact Nat.le_trans q (Nat.succ_le_succ sdI_len)
section
variable {P : Program} {w : World} {A : Around} {E : Value → Shared → Prop} {s : Shared}
abbrev noSet (w : World) : Obj := { cls := .type "set", dict := none, data := .set #[] 0 (.fresh 0 0 (!w.params.followText "set-order")) }
abbrev atSet (s : Shared) (w : World) : Shared := { s with heap := s.heap.push (noSet w) }
set_option maxRecDepth 100000 in
set_option maxHeartbeats 3200000 in
/-- set(xs) of a list of whole numbers -/
theorem set_of_list {lx : Addr} {us : Array Value} (ks : List Int) {Q : Value → Shared → Prop} (nh : A.handled = none) (il : s.heap.IsList lx us) (iu : IntsAre us.toList ks) (few : ks.length + 1 < scanBound)
    (ok : ∀ (h2 : Heap) (t2 c2 : Nat), SetR w h2 s.heap.objs.size (fun j => decide (j ∈ ks)) c2 → c2 ≤ ks.length → (∀ b o, s.heap.get? b = some o → h2.get? b = some o) → Q (.ref s.heap.objs.size) { s with heap := h2, toks := t2 }) :
    wpAny (model P w) A (call (.type "set") [Value.ref lx]) Q E s := by
  have sz : us.size = ks.length := by
    have q := iu.length
    rwa [Array.length_toList] at q
  obtain ⟨cc, tll, mro⟩ := F.called_set.mro
  have made0 := F.called_set.made
  have sub0 := F.called_set.sub
  refine wpAny_call (codeAny_of_tree ?_)
  show wpAny _ _ (callAny (Value.type "set") _) _ _ _
  refine wpAny_pure ⟨Code.quiet_builtin _ (by decide +kernel), codeAny_builtin F.entry_type_call ?_⟩
  rw [Around.under_plain (weight_type_call_type "set" [Value.ref lx] []) rfl]
  have nt := F.called_set.notType
  have cr := F.called_set.canCreate
  have tc := F.typeCall_set_1 (Value.ref lx)
  repeat (any_goals (first | assumption | wp_step))
  refine codeAny_mono (code_set_led1 (Value.ref lx) (E := E) (Q₁ := fun x z => x = .ref s.heap.objs.size ∧ z = atSet s w) ⟨rfl, rfl⟩) fun r z hr => ?_
  cases r with
  | error e => exact hr
  | ok fl =>
    cases fl with
    | ret x =>
      obtain ⟨rfl, rfl⟩ := hr
      have g0 : (s.heap.push (noSet w)).get? s.heap.objs.size = some (noSet w) := Heap.get?_push_size _ rfl
      have ti : Shared.TypeIs (atSet s w) (.ref s.heap.objs.size) "set" := ⟨_, g0, rfl⟩
      have li := F.called_set.init.lookup
      have bi := F.called_set.init.bind (Value.ref s.heap.objs.size)
      repeat (any_goals (first | assumption | wp_step))
      refine codeAny_mono (codeAny_call_builtin (R := wants (fun r z2 => r = .none ∧ ∃ h2 t2 c2, z2 = { s with heap := h2, toks := t2 } ∧ SetR w h2 s.heap.objs.size (fun j => decide (j ∈ ks)) c2 ∧ c2 ≤ ks.length ∧ (∀ b o, s.heap.get? b = some o → h2.get? b = some o)) E) F.called_set.init.plain F.entry_set_init (check_set_init_1 ti ?_)) fun r2 z2 hr2 => ?_
      · obtain ⟨ob, hob, hc0, n0, hd0⟩ := il
        obtain ⟨oc, od, oda, osl⟩ := ob
        simp only at hc0 hd0
        subst hc0
        subst hd0
        have hob2 : (s.heap.push (noSet w)).get? lx = some { cls := .type "list", dict := od, data := .seq us n0, slots := osl } := Heap.get?_push_of_some _ hob
        have s1 := F.sub_list_set
        have s2 := F.sub_list_frozenset
        have ne0 : (Value.type "list" == Value.type "dict") = false := by decide
        have il2 : (s.heap.push (noSet w)).IsList lx us := ⟨_, hob2, rfl, n0, rfl⟩
        unfold Builtin.«set.__init__» noKeywords Builtin.Frozenset.updateFrom
        generalize hIT : pyIter = IT
        wp_walk
        subst hIT
        refine wpAny_pyIter_list il2 ?_
        refine wpAny_bind (wpAny_runValue ?_)
        have ll : lx < s.heap.objs.size := Heap.lt_size hob
        have nh3 : A.in1.in1.in1.handled = none := by simp [nh]
        have z1 : (s.heap.push (noSet w)).objs.size = s.heap.objs.size + 1 := Heap.size_push ..
        have nI : lx ≠ (s.heap.push (noSet w)).objs.size := by
          rw [z1]
          exact Nat.ne_of_lt (Nat.lt_succ_of_lt ll)
        have nS : s.heap.objs.size ∉ [(s.heap.push (noSet w)).objs.size, lx] := by
          rw [z1]
          simp only [List.mem_cons, List.not_mem_nil, or_false, not_or]
          exact ⟨Nat.ne_of_lt (Nat.lt_succ_self _), Nat.ne_of_gt ll⟩
        have vals : ∀ (i : Nat) (v : Value), us[i]? = some v → ∃ k t, ks[i]? = some k ∧ v = .int k t := fun i v hv => by
          have hi : i < ks.length := by rw [← sz]; exact (Array.getElem?_eq_some_iff.mp hv).1
          obtain ⟨t, e⟩ := iu.int_at i v (by rw [Array.getElem?_toList]; exact hv)
          refine ⟨ks[i], t, List.getElem?_eq_getElem hi, ?_⟩
          rw [e, List.getD_eq_getElem?_getD, List.getElem?_eq_getElem hi]
          rfl
        refine set_update_ints ((Walks.list nh3 _ lx nI us).toS) s.heap.objs.size nS ks sz few vals (us.size - 0) 0 _ (by omega) (Nat.zero_le _) ⟨⟨_, Heap.get?_push_size _ rfl, rfl, rfl⟩, (il2.push _)⟩ ?s0 ?s9
        case s0 =>
          exact ⟨0, Nat.le_refl 0, setR_new_at (Heap.get?_push_of_some _ g0)⟩
        case s9 =>
          intro z3 c3 mv hc3 hS3
          obtain ⟨h3, g3, d3, t3, o3⟩ := z3
          have eg : g3 = s.gens := mv.gens
          have ed : d3 = s.drawn := mv.drawn
          have eo : o3 = s.os := mv.os
          subst eg
          subst ed
          subst eo
          show wpAny _ _ _ _ _ _
          refine wpAny_pure ?_
          show wpAny _ _ (ret Value.none) _ _ _
          rw [sz] at hc3
          refine wpAny_pure ⟨rfl, h3, t3, c3, rfl, hS3, hc3, fun b o e => ?_⟩
          have b0 : b < s.heap.objs.size := Heap.lt_size e
          refine mv.heap b o ?_ (Heap.get?_push_of_some _ (Heap.get?_push_of_some _ e))
          rw [z1]
          simp only [List.mem_cons, List.not_mem_nil, or_false, not_or]
          exact ⟨Nat.ne_of_lt b0, Nat.ne_of_lt (Nat.lt_succ_of_lt b0)⟩
      · cases r2 with
        | error e => exact hr2
        | ok fl2 =>
          cases fl2 with
          | ret r =>
            obtain ⟨rfl, h2, t2, c2, rfl, q1, q2, q3⟩ := hr2
            repeat (any_goals (first | assumption | wp_step))
            exact ok _ _ _ q1 q2 q3
          | _ => exact hr2.elim
    | _ => exact hr.elim
end
section
variable {X : Cx} {E : XK} {pos : Pos}
/-- set(xs): the new set is laid -/
def rSetLi (K : PySem.W.Frag) (w : World) : List V → Hp → VK → Prop := fun xs H Q => ∃ (l : Addr) (ns : List Int), xs = [V.ref l] ∧ SqL K H l (ns.map V.int) ∧ ns.length + 1 < scanBound ∧
  ∀ p c, H p = none → c ≤ ns.length → Q (.ref p) (upd H p (SetO w p (fun j => decide (j ∈ ns)) c))
theorem cr_setLi (hc : X.calm = true) : CallR X (.type "set") (rSetLi X.K X.w) := by
  intro pins s σ H xs us Q I r h
  obtain ⟨l, ns, rfl, hq, few, q⟩ := h
  rw [Vals.ref1 r]
  obtain ⟨its, r2, pl, hz⟩ := I.list hq
  refine set_of_list ns (I.ok.hd hc) pl.isList (by simpa using r2.ints) few fun h2 t2 c2 new hc2 hk => ?_
  exact ⟨.ref _, upd H s.heap.objs.size (SetO X.w s.heap.objs.size (fun j => decide (j ∈ ns)) c2), I.laid (t' := t2) (fun b u e => hk b u e) (Nat.le_refl _) (setO_new new), rfl, q _ _ (I.hok.fresh (Nat.le_refl _)) hc2⟩
def sortSetD (x : D) : M D := fun st => match asL st x with
  | some xs => match asInts xs with
    | some ns => if ns.length < 64 then some (.ok (.lst ((sdI ns).map D.int)) st) else none
    | none => none
  | none => none
def eSrtSet (fa : EF) : EF := fun δ => (fa δ).bind sortSetD
theorem de_sortSet {a : Expr} {fa : EF} {p p2 q : Pos} (hc : X.calm = true) (g1 : Gl X "sorted") (m1 : X.mg "sorted" = none) (g2 : Gl X "set") (m2 : X.mg "set" = none) (ha : DE X E a fa)
    (na : starEach [a] X.env = (false, eval a X.env) :: starEach [] X.env := by rfl) (nb : starEach [.Call (.Name "set" p2) [a] [] q] X.env = (false, eval (.Call (.Name "set" p2) [a] [] q) X.env) :: starEach [] X.env := by rfl) :
    DE X E (.Call (.Name "sorted" p) [.Call (.Name "set" p2) [a] [] q] [] pos) (eSrtSet fa) :=
  pe_imp (pe_callB (cr_sortedSet hc) g1 m1 (by decide +kernel) (pa_cons (pe_callTy (cr_setLi hc) g2 m2 (by decide +kernel) (pa_cons ha pa_nil na) (he := na)) pa_nil nb) (he := nb)) fun σ H Q ⟨μ, ν, δ, st, S, o⟩ => by
    refine ⟨μ, ν, δ, st, S, o.fst.imp fun x st1 μ1 H1 e1 s1 o1 v hv => ?_⟩
    unfold sortSetD at o1
    split at o1
    · rename_i hx
      split at o1
      · rename_i ns hb
        split at o1
        · rename_i hl
          obtain ⟨a, vs, rfl, e2, e3, e4⟩ := asL_rep s1 hv hx
          rw [asInts_eq hb] at e4
          rw [reps_ints e4] at e2
          have big : ns.length + 1 < scanBound := by unfold scanBound; omega
          refine ⟨a, ns, rfl, e2, big, fun p c hp hcl => ⟨p, _, c, rfl, upd_same, by omega, fun ms r up mem len hr => ?_⟩⟩
          have em : ms = sdI ns := sdI_only up fun k => (mem k).trans (by simp)
          subst em
          have hl2 : ((sdI ns).map D.int).length ≤ sizeLine := by
            rw [List.length_map, sizeLine_eq]
            have := sdI_len (l := ns)
            omega
          exact o1.go rfl ((s1.ext_new hp).trans ((s1.new hp).ext_new hr)) ((s1.new hp).new hr) _ (rep_lst (s1.new hp) hr hl2 reps_int_back)
        · exact o1.elim
      · exact o1.elim
    · exact o1.elim
end
end DL
end
section
namespace DL
open PySem PySem.Spec PyProof.Rows L2
/-! ### reading the plain functions -/
@[irreducible] def W {α : Type} (m : M α) (st : Sto) (P : α → Sto → Prop) : Prop := match m st with
  | some (.ok a st') => P a st'
  | _ => False
section
variable {α β : Type} {st : Sto} {δ : En}
theorem W.mono {m : M α} {P Q : α → Sto → Prop} (h : W m st P) (k : ∀ a st', P a st' → Q a st') : W m st Q := by
  unfold W at h ⊢
  split at h
  · exact k _ _ h
  · exact h.elim
theorem W.eq {m : M α} {a : α} {st' : Sto} {P : α → Sto → Prop} (h : m st = some (.ok a st')) : W m st P = P a st' := by
  unfold W; rw [h]
@[simp] theorem w_bind {m : M α} {f : α → M β} {P : β → Sto → Prop} : W (M.bind m f) st P = W m st fun a st' => W (f a) st' P := by
  unfold W M.bind
  cases m st with
  | none => rfl
  | some r => cases r <;> rfl
@[simp] theorem w_pure {a : α} {P : α → Sto → Prop} : W (M.pure a) st P = P a st := by with_unfolding_all exact propext Iff.rfl
@[simp] theorem w_ok {f : Sto → α} {g : Sto → Sto} {P : α → Sto → Prop} : W (fun st => some (.ok (f st) (g st))) st P = P (f st) (g st) := by with_unfolding_all exact propext Iff.rfl
@[simp] theorem w_ite {c : Sto → Prop} [∀ s, Decidable (c s)] {m1 m2 : M α} {P : α → Sto → Prop} : W (fun s => if c s then m1 s else m2 s) st P = if c st then W m1 st P else W m2 st P := by
  unfold W; by_cases h : c st <;> simp [h]
theorem w_if {c : Prop} [Decidable c] {m1 m2 : M α} {P : α → Sto → Prop} : W (if c then m1 else m2) st P = if c then W m1 st P else W m2 st P := by split <;> rfl
@[simp] theorem w_var {i : Nat} {P : D → Sto → Prop} : W (eVar i δ) st P = (match δ[i]? with | some (some d) => P d st | _ => False) := by
  unfold W eVar
  cases δ[i]? with
  | none => rfl
  | some o => cases o <;> rfl
@[simp] theorem w_c {d : D} {P : D → Sto → Prop} : W (eC d δ) st P = P d st := by with_unfolding_all exact propext Iff.rfl
@[simp] theorem w_op2 {r : D → D → M D} {fa fb : EF} {P : D → Sto → Prop} : W (eOp2 r fa fb δ) st P = W (fa δ) st fun x st1 => W (fb δ) st1 fun y st2 => W (r x y) st2 P := by unfold eOp2; simp
@[simp] theorem w_nil {P : List D → Sto → Prop} : W (eNil δ) st P = P [] st := by with_unfolding_all exact propext Iff.rfl
@[simp] theorem w_cons {f : EF} {g : En → M (List D)} {P : List D → Sto → Prop} : W (eCons f g δ) st P = W (f δ) st fun x st1 => W (g δ) st1 fun r st2 => P (x :: r) st2 := by unfold eCons; simp
@[simp] theorem w_tup {f : En → M (List D)} {P : D → Sto → Prop} : W (eTup f δ) st P = W (f δ) st fun xs st1 => xs.length ≤ sizeLine ∧ P (.tup xs) st1 := by
  unfold eTup; simp only [w_bind]; congr; funext xs st1; unfold W; by_cases h : xs.length ≤ sizeLine <;> simp [h]
@[simp] theorem w_lst {f : En → M (List D)} {P : D → Sto → Prop} : W (eLst f δ) st P = W (f δ) st fun xs st1 => xs.length ≤ sizeLine ∧ P (.lst xs) st1 := by
  unfold eLst; simp only [w_bind]; congr; funext xs st1; unfold W; by_cases h : xs.length ≤ sizeLine <;> simp [h]
@[simp] theorem w_newL {f : En → M (List D)} {P : D → Sto → Prop} : W (eNewL f δ) st P = W (f δ) st fun xs st1 => xs.length ≤ sizeLine ∧ P (.obj st1.length) (st1 ++ [.lst xs]) := by
  unfold eNewL; simp only [w_bind]; congr; funext xs st1; unfold W; by_cases h : xs.length ≤ sizeLine <;> simp [h]
@[simp] theorem w_sub {i j : Int} {P : D → Sto → Prop} : W (subD (.int i) (.int j)) st P = P (.int (i - j)) st := by with_unfolding_all exact propext Iff.rfl
@[simp] theorem w_add {i j : Int} {P : D → Sto → Prop} : W (addD (.int i) (.int j)) st P = P (.int (i + j)) st := by with_unfolding_all exact propext Iff.rfl
@[simp] theorem w_mod {i j : Int} {P : D → Sto → Prop} : W (modD (.int i) (.int j)) st P = (0 < j ∧ P (.int (i % j)) st) := by unfold W modD; by_cases h : 0 < j <;> simp [h]
@[simp] theorem w_div {i j : Int} {P : D → Sto → Prop} : W (divD (.int i) (.int j)) st P = ((0 < j ∧ j.natAbs < 2 ^ 9000) ∧ P (.int (i / j)) st) := by unfold W divD; by_cases h : 0 < j ∧ j.natAbs < 2 ^ 9000 <;> simp only [h, if_true, if_false, true_and, false_and]
@[simp] theorem w_pow {i j : Int} {P : D → Sto → Prop} : W (powD (.int i) (.int j)) st P = ((0 ≤ j ∧ j ≤ 1000000 ∧ i.natAbs < 2 ^ 64) ∧ P (.int (i ^ j.toNat)) st) := by unfold W powD; by_cases h : 0 ≤ j ∧ j ≤ 1000000 ∧ i.natAbs < 2 ^ 64 <;> simp only [h, if_true, if_false, true_and, false_and]
@[simp] theorem w_mul {i j : Int} {P : D → Sto → Prop} : W (mulD (.int i) (.int j)) st P = ((((-(2 ^ 64) < i ∧ i < 2 ^ 64) ∨ (-(2 ^ 64) < j ∧ j < 2 ^ 64)) ∨ i.natAbs.log2 + j.natAbs.log2 < 1000000) ∧ P (.int (i * j)) st) := by unfold W mulD; by_cases h : ((-(2 ^ 64) < i ∧ i < 2 ^ 64) ∨ (-(2 ^ 64) < j ∧ j < 2 ^ 64)) ∨ i.natAbs.log2 + j.natAbs.log2 < 1000000 <;> simp only [h, if_true, if_false, true_and, false_and]
@[simp] theorem w_cmp {p : Int → Int → Bool} {i j : Int} {P : D → Sto → Prop} : W (cmpI p (.int i) (.int j)) st P = P (.bl (p i j)) st := by with_unfolding_all exact propext Iff.rfl
@[simp] theorem w_bD {b : Bool} {P : Bool → Sto → Prop} : W (bD (.bl b)) st P = P b st := by with_unfolding_all exact propext Iff.rfl
@[simp] theorem w_eB {f : EF} {P : Bool → Sto → Prop} : W (eB f δ) st P = W (f δ) st fun d st1 => W (bD d) st1 P := by unfold eB; simp
@[simp] theorem w_eTru {f : EF} {P : Bool → Sto → Prop} : W (eTru f δ) st P = W (f δ) st fun d st1 => W (truD d) st1 P := by unfold eTru; simp
@[simp] theorem w_truB {b : Bool} {P : Bool → Sto → Prop} : W (truD (.bl b)) st P = P b st := by with_unfolding_all exact propext Iff.rfl
@[simp] theorem w_ch {r r' : D → D → M D} {fa fb fc : EF} {P : D → Sto → Prop} : W (eCh r r' fa fb fc δ) st P = W (fa δ) st fun x st1 => W (fb δ) st1 fun y st2 => W (r x y) st2 fun z st3 => W (bD z) st3 fun b st4 => W (if b = true then (fc δ).bind fun w => r' y w else M.pure (.bl false)) st4 P := by unfold eCh; simp
@[simp] theorem w_tand {f g : En → M Bool} {P : Bool → Sto → Prop} : W (tAndD f g δ) st P = W (f δ) st fun b st1 => W (if b = true then g δ else M.pure false) st1 P := by unfold tAndD; simp
@[simp] theorem w_tor {f g : En → M Bool} {P : Bool → Sto → Prop} : W (tOrD f g δ) st P = W (f δ) st fun b st1 => W (if b = true then M.pure true else g δ) st1 P := by unfold tOrD; simp
@[simp] theorem w_tnot {f : En → M Bool} {P : Bool → Sto → Prop} : W (tNotD f δ) st P = W (f δ) st fun b st1 => P (!b) st1 := by unfold tNotD; simp
@[simp] theorem w_and {f g : EF} {P : D → Sto → Prop} : W (eAnd f g δ) st P = W (f δ) st fun d st1 => W (bD d) st1 fun b st2 => W (if b = true then g δ else M.pure (.bl false)) st2 P := by unfold eAnd; simp
@[simp] theorem w_or {f g : EF} {P : D → Sto → Prop} : W (eOr f g δ) st P = W (f δ) st fun d st1 => W (bD d) st1 fun b st2 => W (if b = true then M.pure (.bl true) else g δ) st2 P := by unfold eOr; simp
@[simp] theorem w_not {f : EF} {P : D → Sto → Prop} : W (eNot f δ) st P = W (f δ) st fun d st1 => W (bD d) st1 fun b st2 => P (.bl (!b)) st2 := by unfold eNot; simp
@[simp] theorem w_next {P : Fl → Sto → Prop} : W (sNext δ) st P = P (.nx δ) st := by with_unfolding_all exact propext Iff.rfl
@[simp] theorem w_ret {f : EF} {P : Fl → Sto → Prop} : W (sRet f δ) st P = W (f δ) st fun d st1 => P (.rt d) st1 := by unfold sRet; simp
@[simp] theorem w_sif {c : En → M Bool} {f g : SF} {P : Fl → Sto → Prop} : W (sIf c f g δ) st P = W (c δ) st fun b st1 => W (if b = true then f δ else g δ) st1 P := by unfold sIf; simp
@[simp] theorem w_expr {f : EF} {P : Fl → Sto → Prop} : W (sExpr f δ) st P = W (f δ) st fun _ st1 => P (.nx δ) st1 := by unfold sExpr; simp
@[simp] theorem w_gN {i : Nat} {d : D} {P : En → Sto → Prop} : W (gN i d δ) st P = P (δ.set i (some d)) st := by with_unfolding_all exact propext Iff.rfl
@[simp] theorem w_asg {f : EF} {g : TgF} {P : Fl → Sto → Prop} : W (sAsg f g δ) st P = W (f δ) st fun d st1 => W (g d δ) st1 fun δ' st2 => P (.nx δ') st2 := by unfold sAsg; simp
@[simp] theorem w_eCall {g : List D → M D} {f : En → M (List D)} {P : D → Sto → Prop} : W (eCall g f δ) st P = W (f δ) st fun xs st1 => W (g xs) st1 P := by unfold eCall; simp
/-- statement after statement: what each case goes on with -/
def goOn (g : SF) (P : Fl → Sto → Prop) : Fl → Sto → Prop := fun fl st => match fl with
  | .nx δ => W (g δ) st P
  | fl => P fl st
@[simp] theorem w_seq {f g : SF} {P : Fl → Sto → Prop} : W (sSeq f g δ) st P = W (f δ) st (goOn g P) := by
  unfold sSeq; simp only [w_bind]; congr; funext fl st1; cases fl <;> with_unfolding_all rfl
@[simp] theorem goOn_nx {g : SF} {P : Fl → Sto → Prop} : goOn g P (.nx δ) st = W (g δ) st P := by with_unfolding_all exact propext Iff.rfl
@[simp] theorem goOn_rt {g : SF} {P : Fl → Sto → Prop} {d : D} : goOn g P (.rt d) st = P (.rt d) st := by with_unfolding_all exact propext Iff.rfl
end
end DL
end
section
namespace DL
open PySem PySem.Spec PyProof.Rows L2
section
variable {α β : Type} {st st1 : Sto} {δ : En}
/-! ### leaving -/
theorem TrOk.rfl' : TrOk st.length st st := ⟨Nat.le_refl _, fun i c _ h => .inl h⟩
theorem TrOk.app {more : Sto} : TrOk st.length st (st ++ more) := ⟨by simp, fun i c hi h => .inl (by rw [List.getElem?_append_left hi] at h; exact h)⟩
theorem TrOk.setb {n j : Nat} {c : Cell} (t : TrOk n st st1) (hc : belowC n c = true) : TrOk n st (st1.set j c) := by
  refine ⟨by rw [List.length_set]; exact t.1, fun i c' hi h => ?_⟩
  by_cases hj : j = i
  · subst hj
    rw [List.getElem?_set] at h
    by_cases hl : j < st1.length
    · simp [hl] at h; exact .inr (h ▸ hc)
    · simp [hl] at h
  · rw [List.getElem?_set_ne hj] at h
    exact t.2 i c' hi h
theorem TrOk.appr {n : Nat} {more : Sto} (t : TrOk n st st1) : TrOk n st (st1 ++ more) := by
  refine ⟨by rw [List.length_append]; exact Nat.le_trans t.1 (Nat.le_add_right _ _), fun i c hi h => ?_⟩
  rw [List.getElem?_append_left (Nat.lt_of_lt_of_le hi t.1)] at h
  exact t.2 i c hi h
def Ret (n : Nat) (st1 : Sto) (fl : Fl) (Q : D → Prop) : Prop := match fl with
  | .rt d => ∃ d', frz n st1 4 d = some d' ∧ Q d'
  | .nx _ => Q .non
  | _ => False
theorem frz_bel {n k : Nat} {d : D} (h : belowD n d = true) : frz n st1 k d = some d := by
  cases k <;> (unfold frz; rw [if_pos h])
@[simp] theorem ret_rt {n : Nat} {d : D} {Q : D → Prop} : Ret n st1 (.rt d) Q = ∃ d', frz n st1 4 d = some d' ∧ Q d' := by with_unfolding_all exact propext Iff.rfl
@[simp] theorem ret_nx {n : Nat} {Q : D → Prop} : Ret n st1 (.nx δ) Q = Q .non := by with_unfolding_all exact propext Iff.rfl
theorem ret_below {n : Nat} {d : D} {Q : D → Prop} (h : belowD n d = true) (q : Q d) : Ret n st1 (.rt d) Q := ⟨d, frz_bel h, q⟩
theorem w_leave {n : Nat} {d : D} {P : D → Sto → Prop} (t : TrOk n st st1) (h : ∃ d', frz n st1 4 d = some d' ∧ P d' (st1.take n)) : W (fun s => leave n st st1 d) st P := by
  obtain ⟨d', e, q⟩ := h
  unfold W leave
  dsimp only
  rw [if_pos t, e]
  exact q
theorem w_callM {p m : Nat} {f : SF} {ds : List D} {P : D → Sto → Prop} (hp : ds.length = p) (h : W (f (startD m ds)) st fun fl st1 => TrOk st.length st st1 ∧ Ret st.length st1 fl fun d => P d (st1.take st.length)) : W (callM p m f ds) st P := by
  unfold W at h ⊢
  unfold callM
  rw [if_pos hp]
  cases e : f (startD m ds) st with
  | none => rw [e] at h; exact h.elim
  | some r =>
    rw [e] at h
    cases r with
    | er C fs st1 => exact h.elim
    | ok fl st1 =>
      obtain ⟨t, q⟩ := h
      cases fl with
      | rt d =>
        have z := w_leave t q
        unfold W at z
        exact z
      | nx δ' =>
        have z := w_leave t ⟨.non, frz_bel (by unfold belowD; rfl), q⟩
        unfold W at z
        exact z
      | bk δ' => exact q.elim
      | ct δ' => exact q.elim
/-- a call that leaves the store as it is and returns flat data -/
theorem w_call0 {p m : Nat} {f : SF} {ds : List D} {P : D → Sto → Prop} (hp : ds.length = p) (h : W (f (startD m ds)) st fun fl st1 => st1 = st ∧ match fl with | .rt d => belowD st.length d = true ∧ P d st | .nx _ => P .non st | _ => False) : W (callM p m f ds) st P := by
  refine w_callM hp (h.mono fun fl st1 ⟨e, q⟩ => ?_)
  subst e
  refine ⟨.rfl', ?_⟩
  rw [List.take_length]
  cases fl with
  | rt d => exact ⟨d, frz_bel q.1, q.2⟩
  | nx δ' => exact q
  | bk δ' => exact q.elim
  | ct δ' => exact q.elim
theorem w_callN {p m : Nat} {f : SF} {ds : List D} {P : D → Sto → Prop} (hp : ds.length = p) (h : W (f (startD m ds)) st fun fl st1 => match fl with | .rt d => P d st1 | .nx _ => P .non st1 | _ => False) : W (callN p m f ds) st P := by
  unfold W at h ⊢
  unfold callN
  rw [if_pos hp]
  cases e : f (startD m ds) st with
  | none => rw [e] at h; exact h.elim
  | some r =>
    rw [e] at h
    cases r with
    | er C fs st1 => exact h.elim
    | ok fl st1 => cases fl <;> exact h
theorem w_scope {drop : List Nat} {f : SF} {P : Fl → Sto → Prop} (h : W (f δ) st fun fl st1 => match fl with
    | .nx δ' => TrOk st.length st st1 ∧ belowE st.length (unsetAll δ' drop) = true ∧ P (.nx (unsetAll δ' drop)) (st1.take st.length)
    | .ct δ' => TrOk st.length st st1 ∧ belowE st.length (unsetAll δ' drop) = true ∧ P (.ct (unsetAll δ' drop)) (st1.take st.length)
    | fl => P fl st1) : W (sScope drop f δ) st P := by
  unfold W at h ⊢
  unfold sScope
  cases e : f δ st with
  | none => rw [e] at h; exact h.elim
  | some r =>
    rw [e] at h
    cases r with
    | er C fs st1 => exact h.elim
    | ok fl st1 =>
      cases fl with
      | rt d => exact h
      | bk δ' => exact h
      | nx δ' => obtain ⟨a, b, c⟩ := h; dsimp only; rw [if_pos ⟨a, b⟩]; exact c
      | ct δ' => obtain ⟨a, b, c⟩ := h; dsimp only; rw [if_pos ⟨a, b⟩]; exact c
theorem w_noer {m : M α} {P : α → Sto → Prop} : W (noer m) st P = W m st P := by
  unfold W noer
  cases m st with
  | none => rfl
  | some r => cases r <;> rfl
/-! ### loops -/
theorem w_for {it : ItF} {g : TgF} {body : SF} {P : Fl → Sto → Prop} : W (sFor it g body δ) st P = W (it δ) st fun xs st1 => W (forM g body xs δ) st1 P := by unfold sFor; simp
theorem w_forM {g : TgF} {body : SF} {P : Fl → Sto → Prop} (Inv : Nat → En → Sto → Prop) {xs : List D}
    (step : ∀ i x δ st, xs[i]? = some x → Inv i δ st → W (g x δ) st fun δ1 st1 => W (body δ1) st1 fun fl st2 => match fl with | .nx δ' => Inv (i + 1) δ' st2 | .ct δ' => Inv (i + 1) δ' st2 | .bk _ => False | .rt d => P (.rt d) st2)
    (done : ∀ δ st, Inv xs.length δ st → P (.nx δ) st) (h0 : Inv 0 δ st) : W (forM g body xs δ) st P := by
  have key : ∀ (m i : Nat) (δ : En) (st : Sto), m = xs.length - i → i ≤ xs.length → Inv i δ st → W (forM g body (xs.drop i) δ) st P := by
    intro m
    induction m with
    | zero =>
      intro i δ st hm hi I
      have : i = xs.length := by omega
      subst this
      rw [List.drop_length]
      unfold forM
      rw [w_pure]
      exact done δ st I
    | succ m ih =>
      intro i δ st hm hi I
      have hl : i < xs.length := by omega
      rw [List.drop_eq_getElem_cons hl]
      unfold forM
      rw [w_bind]
      refine (step i _ δ st (List.getElem?_eq_getElem hl) I).mono fun δ1 st1 q => ?_
      rw [w_bind]
      refine q.mono fun fl st2 q => ?_
      cases fl with
      | nx δ' => exact ih (i + 1) δ' st2 (by omega) hl q
      | ct δ' => exact ih (i + 1) δ' st2 (by omega) hl q
      | bk δ' => exact q.elim
      | rt d =>
        dsimp only
        rw [w_pure]
        exact q
  exact key _ 0 δ st rfl (Nat.zero_le _) h0
/-- a comprehension: each item's value; the store may change -/
theorem w_lcM {g : TgF} {el : EF} {P : List D → Sto → Prop} (Inv : List D → Sto → Prop) {xs : List D}
    (step : ∀ x r st, xs[r.length]? = some x → Inv r st → W (g x δ) st fun δ1 st1 => W (el δ1) st1 fun y st2 => Inv (r ++ [y]) st2)
    (done : ∀ r st, r.length = xs.length → Inv r st → P r st) (h0 : Inv [] st) : W (lcM g eYes el δ xs) st P := by
  have key : ∀ (m : Nat) (r : List D) (st : Sto) (P : List D → Sto → Prop), m = xs.length - r.length → r.length ≤ xs.length → Inv r st → (∀ r' st, (r ++ r').length = xs.length → Inv (r ++ r') st → P r' st) → W (lcM g eYes el δ (xs.drop r.length)) st P := by
    intro m
    induction m with
    | zero =>
      intro r st P hm hi I hP
      have : r.length = xs.length := by omega
      rw [this, List.drop_length]
      show W (M.pure []) st P
      rw [w_pure]
      exact hP [] st (by simpa using this) (by simpa using I)
    | succ m ih =>
      intro r st P hm hi I hP
      have hl : r.length < xs.length := by omega
      rw [List.drop_eq_getElem_cons hl]
      unfold lcM
      rw [w_bind]
      refine (step _ r st (List.getElem?_eq_getElem hl) I).mono fun δ1 st1 q => ?_
      unfold eYes
      rw [w_bind, w_pure, if_pos rfl, w_bind]
      refine q.mono fun y st2 q => ?_
      rw [w_bind]
      have e : (r ++ [y]).length = r.length + 1 := by simp
      have := ih (r ++ [y]) st2 (fun r' st => W (M.pure (y :: r')) st P) (by omega) (by omega) q (fun r' st hr hI => by rw [w_pure]; exact hP (y :: r') st (by simpa using hr) (by simpa using hI))
      rw [e] at this
      exact this
  exact key _ [] st P rfl (Nat.zero_le _) h0 (fun r' st hr hI => done r' st (by simpa using hr) (by simpa using hI))
@[simp] theorem w_lc {it : ItF} {g : TgF} {vs : List Nat} {tt : En → M Bool} {el : EF} {P : D → Sto → Prop} : W (eLc it g vs tt el δ) st P = W (it δ) st fun xs st1 => xs.length ≤ sizeLine ∧ W (lcM g tt el (wipeD δ vs) xs) st1 fun r st2 => P (.lst r) st2 := by
  unfold eLc eLcM
  simp only [w_bind]
  congr; funext xs st1
  by_cases h : xs.length ≤ sizeLine
  · unfold W; simp only [h, if_true, true_and]; with_unfolding_all exact w_noer (P := fun r st2 => P (.lst r) st2)
  · unfold W; simp [h]
@[simp] theorem w_lcN {it : ItF} {g : TgF} {vs : List Nat} {tt : En → M Bool} {el : EF} {P : D → Sto → Prop} : W (eLcN it g vs tt el δ) st P = W (it δ) st fun xs st1 => xs.length ≤ sizeLine ∧ W (lcM g tt el (wipeD δ vs) xs) st1 fun r st2 => P (.obj st2.length) (st2 ++ [.lst r]) := by
  unfold eLcN eLcM
  simp only [w_bind]
  congr; funext xs st1
  by_cases h : xs.length ≤ sizeLine
  · unfold W; simp only [h, if_true, true_and]; with_unfolding_all exact w_noer (P := fun r st2 => P (.obj st2.length) (st2 ++ [.lst r]))
  · unfold W; simp [h]
/-! ### what is gone over -/
@[simp] theorem w_iR1 {f : En → M (List D)} {P : List D → Sto → Prop} : W (iR1 f δ) st P = W (f δ) st fun xs st1 => W (rng1 xs) st1 P := by unfold iR1; simp
@[simp] theorem w_iR2 {f : En → M (List D)} {P : List D → Sto → Prop} : W (iR2 f δ) st P = W (f δ) st fun xs st1 => W (rng2 xs) st1 P := by unfold iR2; simp
@[simp] theorem w_iSq {f : EF} {P : List D → Sto → Prop} : W (iSq f δ) st P = W (f δ) st fun xs st1 => W (seqD xs) st1 P := by unfold iSq; simp
@[simp] theorem w_iEn {f : En → M (List D)} {P : List D → Sto → Prop} : W (iEn f δ) st P = W (f δ) st fun xs st1 => W (enD xs) st1 P := by unfold iEn; simp
@[simp] theorem w_seqL {xs : List D} {P : List D → Sto → Prop} : W (seqD (.lst xs)) st P = P xs st := by with_unfolding_all exact propext Iff.rfl
@[simp] theorem w_seqT {xs : List D} {P : List D → Sto → Prop} : W (seqD (.tup xs)) st P = P xs st := by with_unfolding_all exact propext Iff.rfl
@[simp] theorem w_enL {xs : List D} {P : List D → Sto → Prop} : W (enD [.lst xs]) st P = P (enumD xs) st := by with_unfolding_all exact propext Iff.rfl
theorem in62 {n : Nat} (hn : n ≤ 1000) : -(2 ^ 62) ≤ (n : Int) ∧ (n : Int) < 2 ^ 62 :=
  ⟨Int.le_trans (by decide) (Int.natCast_nonneg n), Int.lt_of_le_of_lt (Int.ofNat_le.mpr hn) (by decide)⟩
theorem rng1_ok {n : Nat} (hn : n ≤ 1000) : rng1 [.int (n : Nat)] st = some (.ok (rngD 0 n) st) := by
  unfold rng1
  exact if_pos (in62 hn)
theorem w_rng1 {n : Nat} {P : List D → Sto → Prop} (hn : n ≤ 1000) : W (rng1 [.int (n : Nat)]) st P = P (rngD 0 n) st := W.eq (rng1_ok hn)
theorem toNat_sub' {a n : Nat} (h : a ≤ n) : ((n : Int) - a).toNat = n - a := by omega
theorem rng2_ok {a n : Nat} (ha : a ≤ n) (hn : n ≤ 1000) : rng2 [.int (a : Nat), .int (n : Nat)] st = some (.ok (rngD a (n - a)) st) := by
  unfold rng2
  dsimp only
  rw [toNat_sub' ha]
  exact if_pos ⟨⟨(in62 (Nat.le_trans ha hn)).1, (in62 (Nat.le_trans ha hn)).2, (in62 hn).1, (in62 hn).2⟩, Nat.le_trans (Nat.le_trans (Nat.sub_le _ _) hn) (by decide)⟩
theorem w_rng2 {a n : Nat} {P : List D → Sto → Prop} (ha : a ≤ n) (hn : n ≤ 1000) : W (rng2 [.int (a : Nat), .int (n : Nat)]) st P = P (rngD a (n - a)) st := W.eq (rng2_ok ha hn)
theorem rngD_getx {lo : Int} {n i : Nat} {x : D} (h : (rngD lo n)[i]? = some x) : i < n ∧ x = .int (lo + i) := by
  unfold rngD at h
  rw [List.getElem?_map] at h
  by_cases hi : i < n
  · rw [List.getElem?_range hi] at h
    exact ⟨hi, (Option.some.inj h).symm⟩
  · rw [List.getElem?_eq_none (by simpa using hi)] at h; cases h
@[simp] theorem rngD_length {lo : Int} {n : Nat} : (rngD lo n).length = n := by unfold rngD; simp
/-! ### lists -/
@[simp] theorem w_lenT {xs : List D} {P : D → Sto → Prop} : W (lenD [.tup xs]) st P = P (.int (xs.length : Nat)) st := by with_unfolding_all exact propext Iff.rfl
@[simp] theorem w_lenL {xs : List D} {P : D → Sto → Prop} : W (lenD [.lst xs]) st P = P (.int (xs.length : Nat)) st := by with_unfolding_all exact propext Iff.rfl
@[simp] theorem w_lenF {xs : List D} {P : D → Sto → Prop} : W (lenD [.fl xs]) st P = P (.int (xs.length : Nat)) st := by with_unfolding_all exact propext Iff.rfl
@[simp] theorem w_max {i j : Int} {P : D → Sto → Prop} : W (max2D [.int i, .int j]) st P = P (.int (if j > i then j else i)) st := by with_unfolding_all exact propext Iff.rfl
@[simp] theorem w_min {i j : Int} {P : D → Sto → Prop} : W (min2D [.int i, .int j]) st P = P (.int (if j < i then j else i)) st := by with_unfolding_all exact propext Iff.rfl
theorem atI_nat {α : Type} {xs : List α} {i : Nat} {x : α} (h : xs[i]? = some x) : atI xs (i : Int) = some x := by
  have hl : i < xs.length := by
    rcases Nat.lt_or_ge i xs.length with q | q
    · exact q
    · rw [List.getElem?_eq_none q] at h; cases h
  unfold atI ixN
  have h2 : (i : Int) < xs.length := by omega
  rw [if_pos (Int.natCast_nonneg i), if_pos h2]
  simpa using h
theorem w_ixL {xs : List D} {i : Int} {d : D} {P : D → Sto → Prop} (h : atI xs i = some d) : W (ixD (.lst xs) (.int i)) st P = P d st := by unfold W ixD asL; simp only [h]
theorem w_ixF {xs : List D} {i : Int} {d : D} {P : D → Sto → Prop} (h : atI xs i = some d) : W (ixD (.fl xs) (.int i)) st P = P d st := by unfold W ixD asL; simp only [h]
theorem w_ixT {xs : List D} {i : Int} {d : D} {P : D → Sto → Prop} (h : atI xs i = some d) : W (ixD (.tup xs) (.int i)) st P = P d st := by unfold W ixD asL asT; simp only [h]
theorem w_ixO {j : Nat} {xs : List D} {i : Int} {d : D} {P : D → Sto → Prop} (hc : st[j]? = some (.lst xs)) (h : atI xs i = some d) : W (ixD (.obj j) (.int i)) st P = P d st := by unfold W ixD asL; simp only [hc, h]
@[simp] theorem w_gSub {fo fi : EF} {d : D} {P : En → Sto → Prop} : W (gSubD fo fi d δ) st P = W (fo δ) st fun o st1 => W (fi δ) st1 fun i st2 => W (setD o i d) st2 fun _ st3 => P δ st3 := by unfold gSubD; simp
theorem w_setD {j n : Nat} {xs : List D} {k : Int} {d : D} {P : Unit → Sto → Prop} (hc : st[j]? = some (.lst xs)) (hn : ixN xs.length k = some n) : W (setD (.obj j) (.int k) d) st P = P () (st.set j (.lst (xs.set n d))) := by
  unfold W setD; simp only [hc, hn]
end
end DL
end
section
namespace DL
open PySem PySem.Spec PyProof.Rows L2
def mapR {α : Type} (n : Nat) (f : Nat → α) : List α := (List.range n).map f
@[simp] theorem mapR_len {α : Type} {n : Nat} {f : Nat → α} : (mapR n f).length = n := by unfold mapR; simp
theorem mapR_get {α : Type} {n i : Nat} {f : Nat → α} (h : i < n) : (mapR n f)[i]? = some (f i) := by unfold mapR; rw [List.getElem?_map, List.getElem?_range h]; rfl
theorem mapR_at {α : Type} {n i : Nat} {f : Nat → α} (h : i < n) : atI (mapR n f) (i : Int) = some (f i) := DL.atI_nat (mapR_get h)
theorem mapR_succ {α : Type} {n : Nat} {f : Nat → α} : mapR (n + 1) f = mapR n f ++ [f n] := by unfold mapR; rw [List.range_succ, List.map_append]; rfl
theorem mapR_ext {α : Type} {n : Nat} {f g : Nat → α} (h : ∀ i, i < n → f i = g i) : mapR n f = mapR n g := by unfold mapR; exact List.map_congr_left fun i hi => h i (List.mem_range.mp hi)
theorem mapR_set {α : Type} {n b : Nat} {f : Nat → α} {v : α} : (mapR n f).set b v = mapR n (fun i => if i = b then v else f i) := by
  apply List.ext_getElem?
  intro i
  by_cases hi : i < n
  · rw [mapR_get hi]
    by_cases hb : b = i
    · subst hb
      rw [List.getElem?_set_self (by rw [mapR_len]; exact hi), if_pos rfl]
    · rw [List.getElem?_set_ne hb, mapR_get hi, if_neg (fun z => hb z.symm)]
  · rw [List.getElem?_eq_none (by rw [List.length_set, mapR_len]; omega), List.getElem?_eq_none (by rw [mapR_len]; omega)]
theorem mapR_map {α β : Type} {n : Nat} {f : Nat → α} {g : α → β} : (mapR n f).map g = mapR n fun i => g (f i) := by unfold mapR; rw [List.map_map]; rfl
theorem mem_mapR {α : Type} {n : Nat} {f : Nat → α} {x : α} (h : x ∈ mapR n f) : ∃ i, i < n ∧ x = f i := by
  unfold mapR at h
  obtain ⟨i, h1, h2⟩ := List.mem_map.mp h
  exact ⟨i, List.mem_range.mp h1, h2.symm⟩
theorem rngA {lo : Int} {n : Nat} : rngD lo n = mapR n fun i => .int (lo + (i : Nat)) := rfl
theorem rng0 {n : Nat} : rngD 0 n = mapR n fun i => .int (i : Nat) := by rw [rngA]; exact mapR_ext fun i _ => by rw [Int.zero_add]
theorem enumD_mapR {n : Nat} {x : Nat → D} : enumD (mapR n x) = mapR n fun i => .tup [.int (i : Nat), x i] := by
  apply List.ext_getElem?
  intro i
  by_cases hi : i < n
  · rw [enumD_get (mapR_get hi), mapR_get hi]
  · rw [List.getElem?_eq_none (by rw [enumD_len, mapR_len]; omega), List.getElem?_eq_none (by rw [mapR_len]; omega)]
theorem zip_mapR {n : Nat} {f g : Nat → D} : zip2D (mapR n f) (mapR n g) = mapR n fun i => .tup [f i, g i] := by
  unfold zip2D mapR
  rw [List.zip_map', List.map_map]
  rfl
theorem zip3_mapR {n : Nat} {f g h : Nat → D} : zip3D (mapR n f) (mapR n g) (mapR n h) = mapR n fun i => .tup [f i, g i, h i] := by
  unfold zip3D
  rw [mapR_len, mapR_len, mapR_len, Nat.min_self, Nat.min_self]
  refine mapR_ext (f := fun i => D.tup [(mapR n f).getD i .non, (mapR n g).getD i .non, (mapR n h).getD i .non]) fun i hi => ?_
  simp only [List.getD_eq_getElem?_getD, mapR_get hi, Option.getD_some]
theorem line_le {n : Nat} (h : n ≤ 1000) : n ≤ sizeLine := Nat.le_trans h (by decide)
theorem le0 : ((0 : Nat) ≤ sizeLine) = True := eq_true (by decide)
theorem le1 : ((1 : Nat) ≤ sizeLine) = True := eq_true (by decide)
theorem le2 : ((2 : Nat) ≤ sizeLine) = True := eq_true (by decide)
theorem le3 : ((3 : Nat) ≤ sizeLine) = True := eq_true (by decide)
theorem le4 : ((4 : Nat) ≤ sizeLine) = True := eq_true (by decide)
section
variable {α β : Type} {st : Sto} {δ : En}
/-! ### what is known whole -/
theorem w_of {m : M α} {a : α} {st' : Sto} {P : α → Sto → Prop} (h : W m st fun d s => d = a ∧ s = st') : W m st P = P a st' := by
  have e : m st = some (.ok a st') := by
    unfold W at h
    cases q : m st with
    | none => rw [q] at h; exact h.elim
    | some r =>
      rw [q] at h
      cases r with
      | er C fs s => exact h.elim
      | ok d s =>
        obtain ⟨rfl, rfl⟩ := h
        rfl
  exact W.eq e
theorem w_eqn {m : M α} {a : α} {st' : Sto} {P : α → Sto → Prop} (h : ∀ {P : α → Sto → Prop}, P a st' → W m st P) : W m st P = P a st' := w_of (h ⟨rfl, rfl⟩)
/-- a call that leaves the store as it is and gives r -/
theorem callE {p m : Nat} {f : SF} {ds : List D} {r : D} {P : D → Sto → Prop} (hp : ds.length = p) (h : W (f (startD m ds)) st fun fl st1 => st1 = st ∧ match fl with | .rt d => belowD st.length d = true ∧ d = r | .nx _ => .non = r | _ => False) : W (callM p m f ds) st P = P r st :=
  w_of (w_call0 hp (h.mono fun fl st1 q => by
    refine ⟨q.1, ?_⟩
    cases fl with
    | rt d => exact ⟨q.2.1, q.2.2, rfl⟩
    | nx δ => exact ⟨q.2, rfl⟩
    | bk δ => exact q.2
    | ct δ => exact q.2))
/-! ### the reading of each construct, once more -/
theorem w_fld1 {C : Addr} {f : Str} {fo : EF} {P : D → Sto → Prop} : W (eFld C f fo δ) st P = W (fo δ) st fun o st1 => W (fldC C f o) st1 P := by unfold eFld; rw [w_bind]
theorem fldC1 {C : Addr} {f : Str} {d : D} {P : D → Sto → Prop} : W (fldC C f (.ins C [(f, d)])) st P = P d st := by
  refine W.eq ?_
  unfold fldC asI
  simp [List.lookup]
theorem w_prop1 {C : Addr} {g : List D → M D} {fo : EF} {P : D → Sto → Prop} : W (eProp C g fo δ) st P = W (fo δ) st fun o st1 => W (ofC' C o) st1 fun _ st2 => W (g [o]) st2 P := by
  unfold eProp
  rw [w_bind]; congr; funext o st1
  rw [w_bind]; congr; funext o st1
  rw [w_noer]
theorem ofC'1 {C : Addr} {fs : List (Str × D)} {P : Unit → Sto → Prop} : W (ofC' C (.ins C fs)) st P = P () st := by
  refine W.eq ?_
  unfold ofC' asI
  simp
theorem w_meth1 {C : Addr} {m : Str} {g : List D → M D} {fo : EF} {f : En → M (List D)} {P : D → Sto → Prop} : W (eMeth C m g fo f δ) st P = W (fo δ) st fun o st1 => W (ofC C m o) st1 fun _ st2 => W (f δ) st2 fun xs st3 => W (g (o :: xs)) st3 P := by
  unfold eMeth
  rw [w_bind]; congr; funext o st1
  rw [w_bind]; congr; funext _ st2
  rw [w_bind]
theorem ofC1 {C : Addr} {m f : Str} {d : D} (h : (m == f) = false) {P : Unit → Sto → Prop} : W (ofC C m (.ins C [(f, d)])) st P = P () st := by
  refine W.eq ?_
  unfold ofC asI
  simp [List.lookup, h]
theorem w_sub1 {C : Addr} {g : List D → M D} {fo fi : EF} {P : D → Sto → Prop} : W (eSub C g fo fi δ) st P = W (fo δ) st fun o st1 => W (fi δ) st1 fun i st2 => W (ownM C g o [i]) st2 P := by unfold eSub; rw [w_op2]
theorem w_own {C : Addr} {g : List D → M D} {fs : List (Str × D)} {xs : List D} {P : D → Sto → Prop} : W (ownM C g (.ins C fs) xs) st P = W (g (.ins C fs :: xs)) st P := by
  unfold ownM
  rw [w_bind, ofC'1]
theorem w_inO {C : Addr} {g : List D → M D} {fs : List (Str × D)} {x : D} {P : D → Sto → Prop} : W (inOD C g x (.ins C fs)) st P = W (g [.ins C fs, x]) st fun d st1 => W (bD d) st1 fun b st2 => P (.bl b) st2 := by
  unfold inOD
  rw [w_bind, w_own]; congr; funext d st1
  rw [w_bind]; congr; funext d st1
  rw [w_pure]
theorem w_ninO {C : Addr} {g : List D → M D} {fs : List (Str × D)} {x : D} {P : D → Sto → Prop} : W (ninOD C g x (.ins C fs)) st P = W (g [.ins C fs, x]) st fun d st1 => W (bD d) st1 fun b st2 => P (.bl (!b)) st2 := by
  unfold ninOD
  rw [w_bind, w_own]; congr; funext d st1
  rw [w_bind]; congr; funext d st1
  rw [w_pure]
theorem w_binO {C : Addr} {g : List D → M D} {fs fs' : List (Str × D)} {P : D → Sto → Prop} : W (binOD C g (.ins C fs) (.ins C fs')) st P = W (g [.ins C fs, .ins C fs']) st P := by
  unfold W binOD ownM M.bind ofC' asI
  simp
theorem w_lenOD {C : Addr} {g : List D → M D} {fs : List (Str × D)} {n : Nat} (hn : n ≤ 1000) (h : ∀ {P : D → Sto → Prop}, W (g [.ins C fs]) st P = P (.int (n : Nat)) st) {P : D → Sto → Prop} : W (lenOD C g (.ins C fs)) st P = P (.int (n : Nat)) st := by
  unfold lenOD
  rw [w_bind, w_own, h]
  refine W.eq ?_
  dsimp only
  rw [if_pos ⟨Int.natCast_nonneg n, Int.lt_of_le_of_lt (Int.ofNat_le.mpr hn) (by decide)⟩]
theorem w_truO1 {C : Addr} {g : List D → M D} {fo : EF} {P : Bool → Sto → Prop} : W (eTruO C g fo δ) st P = W (fo δ) st fun o st1 => W (ownM C g o []) st1 fun d st2 => W (bD d) st2 P := by
  unfold eTruO
  rw [w_bind]; congr; funext o st1
  rw [w_bind]
theorem w_or2a1 {C C' : Addr} {i : Nat} {f1 f2 : EF} {fs : List (Str × D)} (h : δ[i]? = some (some (.ins C' fs))) {P : D → Sto → Prop} : W (eOr2 C (eVar i) f1 f2 δ) st P = if C' = C then W (f1 δ) st P else W (f2 δ) st P := by
  have e : eVar i δ st = some (.ok (.ins C' fs) st) := by unfold eVar; rw [h]
  have k : eOr2 C (eVar i) f1 f2 δ st = if C' = C then f1 δ st else f2 δ st := by
    unfold eOr2
    rw [e]
    unfold asI
    rfl
  unfold W
  rw [k]
  by_cases hc : C' = C
  · rw [if_pos hc, if_pos hc]
  · rw [if_neg hc, if_neg hc]
theorem w_eIf {c : En → M Bool} {fa fb : EF} {P : D → Sto → Prop} : W (eIf c fa fb δ) st P = W (c δ) st fun b st1 => W (if b = true then fa δ else fb δ) st1 P := by unfold eIf; rw [w_bind]
theorem w_eMake {C : Addr} {g : List D → M D} {f : En → M (List D)} {P : D → Sto → Prop} : W (eMake C g f δ) st P = W (f δ) st fun xs st1 => W (makeM C g xs) st1 P := by unfold eMake; rw [w_bind]
theorem w_make {C : Addr} {g : List D → M D} {xs : List D} {P : D → Sto → Prop} (h : W (g (.obj st.length :: xs)) (st ++ [.ins C []]) fun d st1 => d = .non ∧ TrOk st.length st st1 ∧ ∃ d', frz st.length st1 4 (.obj st.length) = some d' ∧ P d' (st1.take st.length)) : W (makeM C g xs) st P := by
  unfold W at h ⊢
  unfold makeM
  cases e : g (.obj st.length :: xs) (st ++ [.ins C []]) with
  | none => rw [e] at h; exact h.elim
  | some r =>
    rw [e] at h
    cases r with
    | er C' fs st1 => exact h.elim
    | ok d st1 =>
      obtain ⟨rfl, t, q⟩ := h
      have z := w_leave t q
      unfold W at z
      exact z
theorem w_makeL1 {i : Nat} {C : Addr} {g : List D → M D} {fa : En → M (List D)} {P : D → Sto → Prop} (h : δ[i]? = some (some (.fn C))) : W (eMakeL i C g fa δ) st P = W (eMake C g fa δ) st P := by
  have e : eMakeL i C g fa δ st = eMake C g fa δ st := by
    unfold eMakeL
    rw [h]
    exact if_pos rfl
  unfold W
  rw [e]
theorem w_eCM {C : Addr} {g : List D → M D} {f : En → M (List D)} {P : D → Sto → Prop} : W (eCM C g f δ) st P = W (f δ) st fun xs st1 => W (g (.fn C :: xs)) st1 P := by unfold eCM; rw [w_bind]
theorem w_callL1 {i : Nat} {f0 : Addr} {g : List D → M D} {fa : En → M (List D)} {P : D → Sto → Prop} (h : δ[i]? = some (some (.fn f0))) : W (eCallL i f0 g fa δ) st P = W (eCall g fa δ) st P := by
  have e : eCallL i f0 g fa δ st = eCall g fa δ st := by
    unfold eCallL
    rw [h]
    exact if_pos rfl
  unfold W
  rw [e]
theorem w_isi {an : Tg → Option Bool} {f : EF} {P : D → Sto → Prop} : W (eIsi an f δ) st P = W (f δ) st fun d st1 => W (isiD an d) st1 P := by unfold eIsi; rw [w_bind]
theorem w_isiD {an : Tg → Option Bool} {d : D} {t : Tg} {b : Bool} {P : D → Sto → Prop} (ht : tagD st d = some t) (ha : an t = some b) : W (isiD an d) st P = P (.bl b) st := W.eq (by unfold isiD; rw [ht]; dsimp only; rw [ha])
theorem isi_ins {T : String} {cs : List Addr} {C : Addr} {fs : List (Str × D)} (h : C ∈ cs) {P : D → Sto → Prop} : W (isiD (anB T cs) (.ins C fs)) st P = P (.bl false) st := w_isiD (t := .inr C) rfl (by unfold anB; exact if_pos h)
theorem isi_ins2 {T T2 : String} {cs : List Addr} {C : Addr} {fs : List (Str × D)} (h : C ∈ cs) {P : D → Sto → Prop} : W (isiD (anB2 T T2 cs) (.ins C fs)) st P = P (.bl false) st := w_isiD (t := .inr C) rfl (by unfold anB2; exact if_pos h)
theorem isi_own {cs : List Addr} {C : Addr} {fs : List (Str × D)} {P : D → Sto → Prop} : W (isiD (anO C cs) (.ins C fs)) st P = P (.bl true) st := w_isiD (t := .inr C) rfl (by unfold anO; exact if_pos rfl)
theorem isi_other {cs : List Addr} {C C0 : Addr} {fs : List (Str × D)} (h0 : C ≠ C0) (h : C ∈ cs) {P : D → Sto → Prop} : W (isiD (anO C0 cs) (.ins C fs)) st P = P (.bl false) st := w_isiD (t := .inr C) rfl (by unfold anO; exact (if_neg h0).trans (if_pos h))

theorem isi_int_int {i : Int} {cs : List Addr} {P : D → Sto → Prop} : W (isiD (anB "int" cs) (.int i)) st P = P (.bl true) st := w_isiD (t := .inl "int") (by first | rfl | (unfold tagD; rfl)) (by unfold anB; dsimp only; decide +kernel)
theorem isi_int_bl {b : Bool} {cs : List Addr} {P : D → Sto → Prop} : W (isiD (anB "int" cs) (.bl b)) st P = P (.bl true) st := w_isiD (t := .inl "bool") (by first | rfl | (unfold tagD; rfl)) (by unfold anB; dsimp only; decide +kernel)
theorem isi_int_non  {cs : List Addr} {P : D → Sto → Prop} : W (isiD (anB "int" cs) (.non)) st P = P (.bl false) st := w_isiD (t := .inl "NoneType") (by first | rfl | (unfold tagD; rfl)) (by unfold anB; dsimp only; decide +kernel)
theorem isi_int_str {x : Str} {cs : List Addr} {P : D → Sto → Prop} : W (isiD (anB "int" cs) (.str x)) st P = P (.bl false) st := w_isiD (t := .inl "str") (by first | rfl | (unfold tagD; rfl)) (by unfold anB; dsimp only; decide +kernel)
theorem isi_int_lst {xs : List D} {cs : List Addr} {P : D → Sto → Prop} : W (isiD (anB "int" cs) (.lst xs)) st P = P (.bl false) st := w_isiD (t := .inl "list") (by first | rfl | (unfold tagD; rfl)) (by unfold anB; dsimp only; decide +kernel)
theorem isi_int_tup {xs : List D} {cs : List Addr} {P : D → Sto → Prop} : W (isiD (anB "int" cs) (.tup xs)) st P = P (.bl false) st := w_isiD (t := .inl "tuple") (by first | rfl | (unfold tagD; rfl)) (by unfold anB; dsimp only; decide +kernel)
theorem isi_int_dct {ks : List (Key × D)} {cs : List Addr} {P : D → Sto → Prop} : W (isiD (anB "int" cs) (.dct ks)) st P = P (.bl false) st := w_isiD (t := .inl "dict") (by first | rfl | (unfold tagD; rfl)) (by unfold anB; dsimp only; decide +kernel)
theorem isi_bool_int {i : Int} {cs : List Addr} {P : D → Sto → Prop} : W (isiD (anB "bool" cs) (.int i)) st P = P (.bl false) st := w_isiD (t := .inl "int") (by first | rfl | (unfold tagD; rfl)) (by unfold anB; dsimp only; decide +kernel)
theorem isi_bool_bl {b : Bool} {cs : List Addr} {P : D → Sto → Prop} : W (isiD (anB "bool" cs) (.bl b)) st P = P (.bl true) st := w_isiD (t := .inl "bool") (by first | rfl | (unfold tagD; rfl)) (by unfold anB; dsimp only; decide +kernel)
theorem isi_bool_non  {cs : List Addr} {P : D → Sto → Prop} : W (isiD (anB "bool" cs) (.non)) st P = P (.bl false) st := w_isiD (t := .inl "NoneType") (by first | rfl | (unfold tagD; rfl)) (by unfold anB; dsimp only; decide +kernel)
theorem isi_bool_str {x : Str} {cs : List Addr} {P : D → Sto → Prop} : W (isiD (anB "bool" cs) (.str x)) st P = P (.bl false) st := w_isiD (t := .inl "str") (by first | rfl | (unfold tagD; rfl)) (by unfold anB; dsimp only; decide +kernel)
theorem isi_bool_lst {xs : List D} {cs : List Addr} {P : D → Sto → Prop} : W (isiD (anB "bool" cs) (.lst xs)) st P = P (.bl false) st := w_isiD (t := .inl "list") (by first | rfl | (unfold tagD; rfl)) (by unfold anB; dsimp only; decide +kernel)
theorem isi_bool_tup {xs : List D} {cs : List Addr} {P : D → Sto → Prop} : W (isiD (anB "bool" cs) (.tup xs)) st P = P (.bl false) st := w_isiD (t := .inl "tuple") (by first | rfl | (unfold tagD; rfl)) (by unfold anB; dsimp only; decide +kernel)
theorem isi_bool_dct {ks : List (Key × D)} {cs : List Addr} {P : D → Sto → Prop} : W (isiD (anB "bool" cs) (.dct ks)) st P = P (.bl false) st := w_isiD (t := .inl "dict") (by first | rfl | (unfold tagD; rfl)) (by unfold anB; dsimp only; decide +kernel)
theorem isi_str_int {i : Int} {cs : List Addr} {P : D → Sto → Prop} : W (isiD (anB "str" cs) (.int i)) st P = P (.bl false) st := w_isiD (t := .inl "int") (by first | rfl | (unfold tagD; rfl)) (by unfold anB; dsimp only; decide +kernel)
theorem isi_str_bl {b : Bool} {cs : List Addr} {P : D → Sto → Prop} : W (isiD (anB "str" cs) (.bl b)) st P = P (.bl false) st := w_isiD (t := .inl "bool") (by first | rfl | (unfold tagD; rfl)) (by unfold anB; dsimp only; decide +kernel)
theorem isi_str_non  {cs : List Addr} {P : D → Sto → Prop} : W (isiD (anB "str" cs) (.non)) st P = P (.bl false) st := w_isiD (t := .inl "NoneType") (by first | rfl | (unfold tagD; rfl)) (by unfold anB; dsimp only; decide +kernel)
theorem isi_str_str {x : Str} {cs : List Addr} {P : D → Sto → Prop} : W (isiD (anB "str" cs) (.str x)) st P = P (.bl true) st := w_isiD (t := .inl "str") (by first | rfl | (unfold tagD; rfl)) (by unfold anB; dsimp only; decide +kernel)
theorem isi_str_lst {xs : List D} {cs : List Addr} {P : D → Sto → Prop} : W (isiD (anB "str" cs) (.lst xs)) st P = P (.bl false) st := w_isiD (t := .inl "list") (by first | rfl | (unfold tagD; rfl)) (by unfold anB; dsimp only; decide +kernel)
theorem isi_str_tup {xs : List D} {cs : List Addr} {P : D → Sto → Prop} : W (isiD (anB "str" cs) (.tup xs)) st P = P (.bl false) st := w_isiD (t := .inl "tuple") (by first | rfl | (unfold tagD; rfl)) (by unfold anB; dsimp only; decide +kernel)
theorem isi_str_dct {ks : List (Key × D)} {cs : List Addr} {P : D → Sto → Prop} : W (isiD (anB "str" cs) (.dct ks)) st P = P (.bl false) st := w_isiD (t := .inl "dict") (by first | rfl | (unfold tagD; rfl)) (by unfold anB; dsimp only; decide +kernel)
theorem isi_list_int {i : Int} {cs : List Addr} {P : D → Sto → Prop} : W (isiD (anB "list" cs) (.int i)) st P = P (.bl false) st := w_isiD (t := .inl "int") (by first | rfl | (unfold tagD; rfl)) (by unfold anB; dsimp only; decide +kernel)
theorem isi_list_bl {b : Bool} {cs : List Addr} {P : D → Sto → Prop} : W (isiD (anB "list" cs) (.bl b)) st P = P (.bl false) st := w_isiD (t := .inl "bool") (by first | rfl | (unfold tagD; rfl)) (by unfold anB; dsimp only; decide +kernel)
theorem isi_list_non  {cs : List Addr} {P : D → Sto → Prop} : W (isiD (anB "list" cs) (.non)) st P = P (.bl false) st := w_isiD (t := .inl "NoneType") (by first | rfl | (unfold tagD; rfl)) (by unfold anB; dsimp only; decide +kernel)
theorem isi_list_str {x : Str} {cs : List Addr} {P : D → Sto → Prop} : W (isiD (anB "list" cs) (.str x)) st P = P (.bl false) st := w_isiD (t := .inl "str") (by first | rfl | (unfold tagD; rfl)) (by unfold anB; dsimp only; decide +kernel)
theorem isi_list_lst {xs : List D} {cs : List Addr} {P : D → Sto → Prop} : W (isiD (anB "list" cs) (.lst xs)) st P = P (.bl true) st := w_isiD (t := .inl "list") (by first | rfl | (unfold tagD; rfl)) (by unfold anB; dsimp only; decide +kernel)
theorem isi_list_tup {xs : List D} {cs : List Addr} {P : D → Sto → Prop} : W (isiD (anB "list" cs) (.tup xs)) st P = P (.bl false) st := w_isiD (t := .inl "tuple") (by first | rfl | (unfold tagD; rfl)) (by unfold anB; dsimp only; decide +kernel)
theorem isi_list_dct {ks : List (Key × D)} {cs : List Addr} {P : D → Sto → Prop} : W (isiD (anB "list" cs) (.dct ks)) st P = P (.bl false) st := w_isiD (t := .inl "dict") (by first | rfl | (unfold tagD; rfl)) (by unfold anB; dsimp only; decide +kernel)
theorem isi_tuple_int {i : Int} {cs : List Addr} {P : D → Sto → Prop} : W (isiD (anB "tuple" cs) (.int i)) st P = P (.bl false) st := w_isiD (t := .inl "int") (by first | rfl | (unfold tagD; rfl)) (by unfold anB; dsimp only; decide +kernel)
theorem isi_tuple_bl {b : Bool} {cs : List Addr} {P : D → Sto → Prop} : W (isiD (anB "tuple" cs) (.bl b)) st P = P (.bl false) st := w_isiD (t := .inl "bool") (by first | rfl | (unfold tagD; rfl)) (by unfold anB; dsimp only; decide +kernel)
theorem isi_tuple_non  {cs : List Addr} {P : D → Sto → Prop} : W (isiD (anB "tuple" cs) (.non)) st P = P (.bl false) st := w_isiD (t := .inl "NoneType") (by first | rfl | (unfold tagD; rfl)) (by unfold anB; dsimp only; decide +kernel)
theorem isi_tuple_str {x : Str} {cs : List Addr} {P : D → Sto → Prop} : W (isiD (anB "tuple" cs) (.str x)) st P = P (.bl false) st := w_isiD (t := .inl "str") (by first | rfl | (unfold tagD; rfl)) (by unfold anB; dsimp only; decide +kernel)
theorem isi_tuple_lst {xs : List D} {cs : List Addr} {P : D → Sto → Prop} : W (isiD (anB "tuple" cs) (.lst xs)) st P = P (.bl false) st := w_isiD (t := .inl "list") (by first | rfl | (unfold tagD; rfl)) (by unfold anB; dsimp only; decide +kernel)
theorem isi_tuple_tup {xs : List D} {cs : List Addr} {P : D → Sto → Prop} : W (isiD (anB "tuple" cs) (.tup xs)) st P = P (.bl true) st := w_isiD (t := .inl "tuple") (by first | rfl | (unfold tagD; rfl)) (by unfold anB; dsimp only; decide +kernel)
theorem isi_tuple_dct {ks : List (Key × D)} {cs : List Addr} {P : D → Sto → Prop} : W (isiD (anB "tuple" cs) (.dct ks)) st P = P (.bl false) st := w_isiD (t := .inl "dict") (by first | rfl | (unfold tagD; rfl)) (by unfold anB; dsimp only; decide +kernel)
theorem isi_dict_int {i : Int} {cs : List Addr} {P : D → Sto → Prop} : W (isiD (anB "dict" cs) (.int i)) st P = P (.bl false) st := w_isiD (t := .inl "int") (by first | rfl | (unfold tagD; rfl)) (by unfold anB; dsimp only; decide +kernel)
theorem isi_dict_bl {b : Bool} {cs : List Addr} {P : D → Sto → Prop} : W (isiD (anB "dict" cs) (.bl b)) st P = P (.bl false) st := w_isiD (t := .inl "bool") (by first | rfl | (unfold tagD; rfl)) (by unfold anB; dsimp only; decide +kernel)
theorem isi_dict_non  {cs : List Addr} {P : D → Sto → Prop} : W (isiD (anB "dict" cs) (.non)) st P = P (.bl false) st := w_isiD (t := .inl "NoneType") (by first | rfl | (unfold tagD; rfl)) (by unfold anB; dsimp only; decide +kernel)
theorem isi_dict_str {x : Str} {cs : List Addr} {P : D → Sto → Prop} : W (isiD (anB "dict" cs) (.str x)) st P = P (.bl false) st := w_isiD (t := .inl "str") (by first | rfl | (unfold tagD; rfl)) (by unfold anB; dsimp only; decide +kernel)
theorem isi_dict_lst {xs : List D} {cs : List Addr} {P : D → Sto → Prop} : W (isiD (anB "dict" cs) (.lst xs)) st P = P (.bl false) st := w_isiD (t := .inl "list") (by first | rfl | (unfold tagD; rfl)) (by unfold anB; dsimp only; decide +kernel)
theorem isi_dict_tup {xs : List D} {cs : List Addr} {P : D → Sto → Prop} : W (isiD (anB "dict" cs) (.tup xs)) st P = P (.bl false) st := w_isiD (t := .inl "tuple") (by first | rfl | (unfold tagD; rfl)) (by unfold anB; dsimp only; decide +kernel)
theorem isi_dict_dct {ks : List (Key × D)} {cs : List Addr} {P : D → Sto → Prop} : W (isiD (anB "dict" cs) (.dct ks)) st P = P (.bl true) st := w_isiD (t := .inl "dict") (by first | rfl | (unfold tagD; rfl)) (by unfold anB; dsimp only; decide +kernel)
theorem isi_lt_int {i : Int} {cs : List Addr} {P : D → Sto → Prop} : W (isiD (anB2 "list" "tuple" cs) (.int i)) st P = P (.bl false) st := w_isiD (t := .inl "int") (by first | rfl | (unfold tagD; rfl)) (by unfold anB2; dsimp only; decide +kernel)
theorem isi_o_int {i : Int} {cs : List Addr} {C : Addr} {P : D → Sto → Prop} : W (isiD (anO C cs) (.int i)) st P = P (.bl false) st := w_isiD (t := .inl "int") (by first | rfl | (unfold tagD; rfl)) (by unfold anO; exact if_pos (by decide))
theorem isi_lt_bl {b : Bool} {cs : List Addr} {P : D → Sto → Prop} : W (isiD (anB2 "list" "tuple" cs) (.bl b)) st P = P (.bl false) st := w_isiD (t := .inl "bool") (by first | rfl | (unfold tagD; rfl)) (by unfold anB2; dsimp only; decide +kernel)
theorem isi_o_bl {b : Bool} {cs : List Addr} {C : Addr} {P : D → Sto → Prop} : W (isiD (anO C cs) (.bl b)) st P = P (.bl false) st := w_isiD (t := .inl "bool") (by first | rfl | (unfold tagD; rfl)) (by unfold anO; exact if_pos (by decide))
theorem isi_lt_non  {cs : List Addr} {P : D → Sto → Prop} : W (isiD (anB2 "list" "tuple" cs) (.non)) st P = P (.bl false) st := w_isiD (t := .inl "NoneType") (by first | rfl | (unfold tagD; rfl)) (by unfold anB2; dsimp only; decide +kernel)
theorem isi_o_non  {cs : List Addr} {C : Addr} {P : D → Sto → Prop} : W (isiD (anO C cs) (.non)) st P = P (.bl false) st := w_isiD (t := .inl "NoneType") (by first | rfl | (unfold tagD; rfl)) (by unfold anO; exact if_pos (by decide))
theorem isi_lt_str {x : Str} {cs : List Addr} {P : D → Sto → Prop} : W (isiD (anB2 "list" "tuple" cs) (.str x)) st P = P (.bl false) st := w_isiD (t := .inl "str") (by first | rfl | (unfold tagD; rfl)) (by unfold anB2; dsimp only; decide +kernel)
theorem isi_o_str {x : Str} {cs : List Addr} {C : Addr} {P : D → Sto → Prop} : W (isiD (anO C cs) (.str x)) st P = P (.bl false) st := w_isiD (t := .inl "str") (by first | rfl | (unfold tagD; rfl)) (by unfold anO; exact if_pos (by decide))
theorem isi_lt_lst {xs : List D} {cs : List Addr} {P : D → Sto → Prop} : W (isiD (anB2 "list" "tuple" cs) (.lst xs)) st P = P (.bl true) st := w_isiD (t := .inl "list") (by first | rfl | (unfold tagD; rfl)) (by unfold anB2; dsimp only; decide +kernel)
theorem isi_o_lst {xs : List D} {cs : List Addr} {C : Addr} {P : D → Sto → Prop} : W (isiD (anO C cs) (.lst xs)) st P = P (.bl false) st := w_isiD (t := .inl "list") (by first | rfl | (unfold tagD; rfl)) (by unfold anO; exact if_pos (by decide))
theorem isi_lt_tup {xs : List D} {cs : List Addr} {P : D → Sto → Prop} : W (isiD (anB2 "list" "tuple" cs) (.tup xs)) st P = P (.bl true) st := w_isiD (t := .inl "tuple") (by first | rfl | (unfold tagD; rfl)) (by unfold anB2; dsimp only; decide +kernel)
theorem isi_o_tup {xs : List D} {cs : List Addr} {C : Addr} {P : D → Sto → Prop} : W (isiD (anO C cs) (.tup xs)) st P = P (.bl false) st := w_isiD (t := .inl "tuple") (by first | rfl | (unfold tagD; rfl)) (by unfold anO; exact if_pos (by decide))
theorem isi_lt_dct {ks : List (Key × D)} {cs : List Addr} {P : D → Sto → Prop} : W (isiD (anB2 "list" "tuple" cs) (.dct ks)) st P = P (.bl false) st := w_isiD (t := .inl "dict") (by first | rfl | (unfold tagD; rfl)) (by unfold anB2; dsimp only; decide +kernel)
theorem isi_o_dct {ks : List (Key × D)} {cs : List Addr} {C : Addr} {P : D → Sto → Prop} : W (isiD (anO C cs) (.dct ks)) st P = P (.bl false) st := w_isiD (t := .inl "dict") (by first | rfl | (unfold tagD; rfl)) (by unfold anO; exact if_pos (by decide))
/-! ### built-ins -/
theorem w_tupleL {xs : List D} {P : D → Sto → Prop} : W (tupleD [.lst xs]) st P = P (.tup xs) st := W.eq rfl
theorem w_tupleT {xs : List D} {P : D → Sto → Prop} : W (tupleD [.tup xs]) st P = P (.tup xs) st := W.eq rfl
theorem w_listL {xs : List D} {P : D → Sto → Prop} : W (listD [.lst xs]) st P = P (.lst xs) st := W.eq rfl
theorem w_listT {xs : List D} {P : D → Sto → Prop} : W (listD [.tup xs]) st P = P (.lst xs) st := W.eq rfl
theorem w_listNT {xs : List D} {P : D → Sto → Prop} : W (listN [.tup xs]) st P = P (.obj st.length) (st ++ [.lst xs]) := W.eq rfl
theorem w_listNL {xs : List D} {P : D → Sto → Prop} : W (listN [.lst xs]) st P = P (.obj st.length) (st ++ [.lst xs]) := W.eq rfl
theorem w_neg {f : EF} {P : D → Sto → Prop} : W (eNeg f δ) st P = W (f δ) st fun d st1 => W (negD d) st1 P := by unfold eNeg; rw [w_bind]
theorem w_negI {i : Int} {P : D → Sto → Prop} : W (negD (.int i)) st P = P (.int (-i)) st := W.eq rfl
theorem w_eListR1 {f : EF} {P : D → Sto → Prop} : W (eListR1 f δ) st P = W (f δ) st fun d st1 => W (rngL d) st1 P := by unfold eListR1; rw [w_bind]
theorem w_rngL {n : Nat} {P : D → Sto → Prop} (hn : n ≤ 1000) : W (rngL (.int (n : Nat))) st P = P (.lst (mapR n fun i => .int (i : Nat))) st := by
  refine (W.eq ?_).trans (by rw [← rng0])
  unfold rngL
  dsimp only
  rw [if_pos ⟨Int.le_trans (by decide) (Int.natCast_nonneg n), by omega⟩, Int.toNat_natCast]
theorem w_r1 {n : Nat} {P : List D → Sto → Prop} (hn : n ≤ 1000) : W (rng1 [.int (n : Nat)]) st P = P (mapR n fun i => .int (i : Nat)) st := by rw [w_rng1 hn, rng0]
theorem w_r2 {a n : Nat} {P : List D → Sto → Prop} (ha : a ≤ n) (hn : n ≤ 1000) : W (rng2 [.int (a : Nat), .int (n : Nat)]) st P = P (mapR (n - a) fun i => .int ((a : Nat) + (i : Nat))) st := by rw [w_rng2 ha hn, rngA]
theorem w_iZpA {f : En → M (List D)} {P : List D → Sto → Prop} : W (iZpA f δ) st P = W (f δ) st fun xs st1 => W (zpA xs) st1 P := by unfold iZpA; rw [w_bind]
theorem w_iZp3A {f : En → M (List D)} {P : List D → Sto → Prop} : W (iZp3A f δ) st P = W (f δ) st fun xs st1 => W (zp3A xs) st1 P := by unfold iZp3A; rw [w_bind]
theorem w_iEnA {f : En → M (List D)} {P : List D → Sto → Prop} : W (iEnA f δ) st P = W (f δ) st fun xs st1 => W (enA xs) st1 P := by unfold iEnA; rw [w_bind]
theorem w_zpTT {xs ys : List D} {P : List D → Sto → Prop} : W (zpA [.tup xs, .tup ys]) st P = P (zip2D xs ys) st := W.eq rfl
theorem w_zpTL {xs ys : List D} {P : List D → Sto → Prop} : W (zpA [.tup xs, .lst ys]) st P = P (zip2D xs ys) st := W.eq rfl
theorem w_zpLT {xs ys : List D} {P : List D → Sto → Prop} : W (zpA [.lst xs, .tup ys]) st P = P (zip2D xs ys) st := W.eq rfl
theorem w_zpLL {xs ys : List D} {P : List D → Sto → Prop} : W (zpA [.lst xs, .lst ys]) st P = P (zip2D xs ys) st := W.eq rfl
theorem w_zpLLT {xs ys zs : List D} {P : List D → Sto → Prop} : W (zp3A [.lst xs, .lst ys, .tup zs]) st P = P (zip3D xs ys zs) st := W.eq rfl
theorem w_enAL {xs : List D} {P : List D → Sto → Prop} : W (enA [.lst xs]) st P = P (enumD xs) st := W.eq rfl
theorem w_enAT {xs : List D} {P : List D → Sto → Prop} : W (enA [.tup xs]) st P = P (enumD xs) st := W.eq rfl
theorem w_intB {b : Bool} {P : D → Sto → Prop} : W (intD [.bl b]) st P = P (.int (if b = true then 1 else 0)) st := W.eq rfl
theorem w_intI {i : Int} {P : D → Sto → Prop} : W (intD [.int i]) st P = P (.int i) st := W.eq rfl
theorem asInts_mapR {n : Nat} {c : Nat → Int} : asInts (mapR n fun i => .int (c i)) = some (mapR n c) := by
  have e : (mapR n fun i => D.int (c i)) = (mapR n c).map D.int := mapR_map.symm
  rw [e, asInts_map]
theorem asBls_mapR {n : Nat} {c : Nat → Bool} : asBls (mapR n fun i => .bl (c i)) = some (mapR n c) := by
  have e : (mapR n fun i => D.bl (c i)) = (mapR n c).map D.bl := mapR_map.symm
  rw [e, asBls_map]
theorem w_sumT {n : Nat} {c : Nat → Int} {P : D → Sto → Prop} : W (sumA [.tup (mapR n fun i => .int (c i))]) st P = P (.int (mapR n c).sum) st := by
  refine W.eq ?_
  unfold sumA asA asT
  dsimp only
  rw [asInts_mapR]
theorem w_sumL {n : Nat} {c : Nat → Int} {P : D → Sto → Prop} : W (sumA [.lst (mapR n fun i => .int (c i))]) st P = P (.int (mapR n c).sum) st := by
  refine W.eq ?_
  unfold sumA asA asT asL
  dsimp only
  rw [asInts_mapR]
theorem w_anyT {n : Nat} {c : Nat → Int} {P : D → Sto → Prop} : W (anyA [.tup (mapR n fun i => .int (c i))]) st P = P (.bl ((mapR n fun i => c i != 0).any id)) st := by
  refine W.eq ?_
  unfold anyA asA asT
  dsimp only
  have e : allM tr1 (mapR n fun i => D.int (c i)) = some (mapR n fun i => c i != 0) := by
    unfold mapR
    exact allM_map fun i _ => rfl
  rw [e]
theorem w_allL {n : Nat} {c : Nat → Bool} {P : D → Sto → Prop} : W (allD [.lst (mapR n fun i => .bl (c i))]) st P = P (.bl ((mapR n c).all id)) st := by
  refine W.eq ?_
  unfold allD asL
  dsimp only
  rw [asBls_mapR]
theorem all_mapR {n : Nat} {f : Nat → Bool} (h : ∀ i, i < n → f i = true) : (mapR n f).all id = true := by
  unfold mapR
  rw [List.all_map, List.all_eq_true]
  exact fun i hi => h i (List.mem_range.mp hi)
/-! ### == and is -/
theorem eqv_int {i j : Int} : PyData.eqv (.int i) (.int j) = decide (i = j) := by
  first
    | rfl
    | (unfold PyData.eqv; rfl)
    | (simp [PyData.eqv])
theorem datD_int {k : Nat} {i : Int} : datD st k (.int i) = some (.int i) := by cases k <;> rfl
theorem datD_bl {k : Nat} {b : Bool} : datD st k (.bl b) = some (.bool b) := by cases k <;> rfl
theorem datD_non {k : Nat} : datD st k .non = some .none := by cases k <;> rfl
theorem datD_lst {k : Nat} {xs : List D} {ps : List PyData} (h : allM (datD st k) xs = some ps) : datD st (k + 1) (.lst xs) = some (.list ps) := by unfold datD; rw [h]
theorem datD_tup {k : Nat} {xs : List D} {ps : List PyData} (h : allM (datD st k) xs = some ps) : datD st (k + 1) (.tup xs) = some (.tuple ps) := by unfold datD; rw [h]
theorem w_eqI {i j : Int} {P : D → Sto → Prop} : W (eqD (.int i) (.int j)) st P = P (.bl (decide (i = j))) st := by
  refine (W.eq ?_)
  unfold eqD
  rw [datD_int, datD_int]
  dsimp only
  rw [eqv_int]
theorem w_neI {i j : Int} {P : D → Sto → Prop} : W (neD (.int i) (.int j)) st P = P (.bl (!decide (i = j))) st := by
  refine (W.eq ?_)
  unfold neD
  rw [datD_int, datD_int]
  dsimp only
  rw [eqv_int]
theorem eqv_bool {a b : Bool} : PyData.eqv (.bool a) (.bool b) = (a == b) := by cases a <;> cases b <;> decide
theorem w_eqB {a b : Bool} {P : D → Sto → Prop} : W (eqD (.bl a) (.bl b)) st P = P (.bl (a == b)) st := by
  refine (W.eq ?_)
  unfold eqD
  rw [datD_bl, datD_bl]
  dsimp only
  rw [eqv_bool]
theorem w_neB {a b : Bool} {P : D → Sto → Prop} : W (neD (.bl a) (.bl b)) st P = P (.bl (!(a == b))) st := by
  refine (W.eq ?_)
  unfold neD
  rw [datD_bl, datD_bl]
  dsimp only
  rw [eqv_bool]
/-- two lists, item by item -/
theorem eqv_all {n : Nat} : ∀ {f g : Nat → PyData}, PyData.eqvAll (mapR n f) (mapR n g) = (mapR n fun i => PyData.eqv (f i) (g i)).all id := by
  have key : ∀ (l : List Nat) (f g : Nat → PyData), PyData.eqvAll (l.map f) (l.map g) = (l.map fun i => PyData.eqv (f i) (g i)).all id := by
    intro l
    induction l with
    | nil => intro f g; unfold PyData.eqvAll; rfl
    | cons x xs ih =>
      intro f g
      show PyData.eqvAll (f x :: xs.map f) (g x :: xs.map g) = _
      unfold PyData.eqvAll
      rw [ih]
      rfl
  exact fun {f g} => key _ f g
theorem eqv_list {xs ys : List PyData} : PyData.eqv (.list xs) (.list ys) = PyData.eqvAll xs ys := by
  conv => lhs; unfold PyData.eqv
theorem eqv_tuple {xs ys : List PyData} : PyData.eqv (.tuple xs) (.tuple ys) = PyData.eqvAll xs ys := by
  conv => lhs; unfold PyData.eqv
theorem allM_mapR {β : Type} {f : D → Option β} {n : Nat} {m : Nat → D} {g : Nat → β} (h : ∀ i, i < n → f (m i) = some (g i)) : allM f (mapR n m) = some (mapR n g) := by
  unfold mapR
  exact allM_map fun i hi => h i (List.mem_range.mp hi)
theorem allM_ints {k n : Nat} {c : Nat → Int} : allM (datD st k) (mapR n fun i => .int (c i)) = some (mapR n fun i => .int (c i)) := allM_mapR fun i _ => datD_int
theorem eqv_ints {n : Nat} {c c' : Nat → Int} : PyData.eqvAll (mapR n fun i => .int (c i)) (mapR n fun i => .int (c' i)) = decide (mapR n c = mapR n c') := by
  rw [eqv_all]
  have e : (fun i => PyData.eqv (.int (c i)) (.int (c' i))) = fun i => decide (c i = c' i) := by funext i; exact eqv_int
  rw [e]
  by_cases h : mapR n c = mapR n c'
  · rw [decide_eq_true h]
    refine all_mapR fun i hi => decide_eq_true ?_
    have q := congrArg (fun l => l[i]?) h
    simp only [mapR_get hi, Option.some.injEq] at q
    exact q
  · rw [decide_eq_false h]
    rw [← Bool.not_eq_true]
    intro z
    refine h (mapR_ext fun i hi => ?_)
    unfold mapR at z
    rw [List.all_map, List.all_eq_true] at z
    exact of_decide_eq_true (z i (List.mem_range.mpr hi))
theorem w_eqLL {n : Nat} {c c' : Nat → Int} {P : D → Sto → Prop} : W (eqD (.lst (mapR n fun i => .int (c i))) (.lst (mapR n fun i => .int (c' i)))) st P = P (.bl (decide (mapR n c = mapR n c'))) st := by
  refine (W.eq ?_)
  unfold eqD
  rw [datD_lst allM_ints, datD_lst allM_ints]
  dsimp only
  rw [eqv_list, eqv_ints]
theorem w_neLL {n : Nat} {c c' : Nat → Int} {P : D → Sto → Prop} : W (neD (.lst (mapR n fun i => .int (c i))) (.lst (mapR n fun i => .int (c' i)))) st P = P (.bl (!decide (mapR n c = mapR n c'))) st := by
  refine (W.eq ?_)
  unfold neD
  rw [datD_lst allM_ints, datD_lst allM_ints]
  dsimp only
  rw [eqv_list, eqv_ints]
theorem w_eqTT {n : Nat} {c c' : Nat → Int} {P : D → Sto → Prop} : W (eqD (.tup (mapR n fun i => .int (c i))) (.tup (mapR n fun i => .int (c' i)))) st P = P (.bl (decide (mapR n c = mapR n c'))) st := by
  refine (W.eq ?_)
  unfold eqD
  rw [datD_tup allM_ints, datD_tup allM_ints]
  dsimp only
  rw [eqv_tuple, eqv_ints]
theorem w_neTT {n : Nat} {c c' : Nat → Int} {P : D → Sto → Prop} : W (neD (.tup (mapR n fun i => .int (c i))) (.tup (mapR n fun i => .int (c' i)))) st P = P (.bl (!decide (mapR n c = mapR n c'))) st := by
  refine (W.eq ?_)
  unfold neD
  rw [datD_tup allM_ints, datD_tup allM_ints]
  dsimp only
  rw [eqv_tuple, eqv_ints]
/-- data that == finds equal to itself -/
def DatR (st : Sto) (k : Nat) (d : D) : Prop := ∃ p, datD st k d = some p ∧ PyData.eqv p p = true
theorem datR_all {k : Nat} : ∀ {l : List D}, (∀ d ∈ l, DatR st k d) → ∃ ps, allM (datD st k) l = some ps ∧ PyData.eqvAll ps ps = true
  | [], _ => ⟨[], rfl, by unfold PyData.eqvAll; rfl⟩
  | x :: xs, h => by
    obtain ⟨p, h1, h2⟩ := h x (List.mem_cons_self)
    obtain ⟨ps, h3, h4⟩ := datR_all fun d hd => h d (List.mem_cons_of_mem _ hd)
    refine ⟨p :: ps, ?_, ?_⟩
    · unfold allM; rw [h1, h3]
    · unfold PyData.eqvAll; rw [h2, h4]; rfl
theorem datR_lst {k : Nat} {l : List D} (h : ∀ d ∈ l, DatR st k d) : DatR st (k + 1) (.lst l) := by
  obtain ⟨ps, h1, h2⟩ := datR_all h
  exact ⟨.list ps, datD_lst h1, by rw [eqv_list]; exact h2⟩
theorem datR_tup {k : Nat} {l : List D} (h : ∀ d ∈ l, DatR st k d) : DatR st (k + 1) (.tup l) := by
  obtain ⟨ps, h1, h2⟩ := datR_all h
  exact ⟨.tuple ps, datD_tup h1, by rw [eqv_tuple]; exact h2⟩
theorem datR_int {k : Nat} {i : Int} : DatR st k (.int i) := ⟨.int i, datD_int, by rw [eqv_int]; exact decide_eq_true rfl⟩
theorem datR_non {k : Nat} : DatR st k .non := ⟨.none, datD_non, by unfold PyData.eqv; rfl⟩
theorem datR_mapR {k n : Nat} {f : Nat → D} (h : ∀ i, i < n → DatR st k (f i)) : DatR st (k + 1) (.lst (mapR n f)) := datR_lst fun d hd => by
  obtain ⟨i, hi, rfl⟩ := mem_mapR hd
  exact h i hi
theorem datR_mapT {k n : Nat} {f : Nat → D} (h : ∀ i, i < n → DatR st k (f i)) : DatR st (k + 1) (.tup (mapR n f)) := datR_tup fun d hd => by
  obtain ⟨i, hi, rfl⟩ := mem_mapR hd
  exact h i hi
theorem w_eqS {d : D} {P : D → Sto → Prop} (h : DatR st 8 d) : W (eqD d d) st P = P (.bl true) st := by
  obtain ⟨p, h1, h2⟩ := h
  refine (W.eq ?_)
  unfold eqD
  rw [h1]
  dsimp only
  rw [h2]
theorem w_neS {d : D} {P : D → Sto → Prop} (h : DatR st 8 d) : W (neD d d) st P = P (.bl false) st := by
  obtain ⟨p, h1, h2⟩ := h
  refine (W.eq ?_)
  unfold neD
  rw [h1]
  dsimp only
  rw [h2]
  rfl
theorem w_isB {a b : Bool} {P : D → Sto → Prop} : W (isD (.bl a) (.bl b)) st P = P (.bl (a == b)) st := W.eq rfl
theorem w_nisB {a b : Bool} {P : D → Sto → Prop} : W (nisD (.bl a) (.bl b)) st P = P (.bl (!(a == b))) st := W.eq rfl
theorem w_isN {P : D → Sto → Prop} : W (isD .non .non) st P = P (.bl true) st := W.eq rfl
theorem w_nisN {P : D → Sto → Prop} : W (nisD .non .non) st P = P (.bl false) st := W.eq rfl
theorem w_isT {xs : List D} {P : D → Sto → Prop} : W (isD (.tup xs) .non) st P = P (.bl false) st := W.eq rfl
theorem w_nisT {xs : List D} {P : D → Sto → Prop} : W (nisD (.tup xs) .non) st P = P (.bl true) st := W.eq rfl
theorem w_isL {xs : List D} {P : D → Sto → Prop} : W (isD (.lst xs) .non) st P = P (.bl false) st := W.eq rfl
theorem w_nisL {xs : List D} {P : D → Sto → Prop} : W (nisD (.lst xs) .non) st P = P (.bl true) st := W.eq rfl
theorem w_isI {i : Int} {P : D → Sto → Prop} : W (isD (.int i) .non) st P = P (.bl false) st := W.eq rfl
theorem w_nisI {i : Int} {P : D → Sto → Prop} : W (nisD (.int i) .non) st P = P (.bl true) st := W.eq rfl
theorem w_gT2 {i j : Nat} {x y : D} {P : En → Sto → Prop} : W (gT [gN i, gN j] (.tup [x, y]) δ) st P = P ((δ.set i (some x)).set j (some y)) st := W.eq rfl
theorem w_gT3 {i j l : Nat} {x y z : D} {P : En → Sto → Prop} : W (gT [gN i, gN j, gN l] (.tup [x, y, z]) δ) st P = P (((δ.set i (some x)).set j (some y)).set l (some z)) st := W.eq rfl
theorem w_gT21 {i j l : Nat} {x y z : D} {P : En → Sto → Prop} : W (gT [gT [gN i, gN j], gN l] (.tup [.tup [x, y], z]) δ) st P = P (((δ.set i (some x)).set j (some y)).set l (some z)) st := W.eq rfl
def par2 (i j : Nat) (δ : En) (P : Fl → Sto → Prop) (ds : List D) (st : Sto) : Prop := match ds with
  | [x, y] => P (.nx ((δ.set i (some x)).set j (some y))) st
  | _ => False
theorem par2_2 {i j : Nat} {x y : D} {P : Fl → Sto → Prop} : par2 i j δ P [x, y] st = P (.nx ((δ.set i (some x)).set j (some y))) st := rfl
theorem w_par2E {i j : Nat} {f : En → M (List D)} {P : Fl → Sto → Prop} : W (sPar2 i j f δ) st P = W (f δ) st (par2 i j δ P) := by
  unfold sPar2
  rw [w_bind]; congr; funext ds st1
  rcases ds with _ | ⟨x, _ | ⟨y, _ | ⟨z, r⟩⟩⟩ <;> first | exact w_pure | (unfold W M.no par2; rfl)
def par3 (i j l : Nat) (δ : En) (P : Fl → Sto → Prop) (ds : List D) (st : Sto) : Prop := match ds with
  | [x, y, z] => P (.nx (((δ.set i (some x)).set j (some y)).set l (some z))) st
  | _ => False
theorem par3_3 {i j l : Nat} {x y z : D} {P : Fl → Sto → Prop} : par3 i j l δ P [x, y, z] st = P (.nx (((δ.set i (some x)).set j (some y)).set l (some z))) st := rfl
theorem w_par3E {i j l : Nat} {f : En → M (List D)} {P : Fl → Sto → Prop} : W (sPar3 i j l f δ) st P = W (f δ) st (par3 i j l δ P) := by
  unfold sPar3
  rw [w_bind]; congr; funext ds st1
  rcases ds with _ | ⟨x, _ | ⟨y, _ | ⟨z, _ | ⟨u, r⟩⟩⟩⟩ <;> first | exact w_pure | (unfold W M.no par3; rfl)
theorem w_slD {xs : List D} {lo hi : Option Int} {P : D → Sto → Prop} : W (slD (.lst xs) lo hi) st P = P (.lst (cutD xs lo hi)) st := W.eq rfl
theorem w_slF {xs : List D} {lo hi : Option Int} {P : D → Sto → Prop} : W (slD (.fl xs) lo hi) st P = P (.lst (cutD xs lo hi)) st := W.eq rfl
theorem w_eSlice {r : D → Option Int → Option Int → M D} {fe : EF} {fl fh : En → M (Option Int)} {P : D → Sto → Prop} : W (eSlice r fe fl fh δ) st P = W (fe δ) st fun x st1 => W (fl δ) st1 fun l st2 => W (fh δ) st2 fun h st3 => W (r x l h) st3 P := by
  unfold eSlice
  rw [w_bind]; congr; funext x st1
  rw [w_bind]; congr; funext x st1
  rw [w_bind]
theorem w_eNoP {P : Option Int → Sto → Prop} : W (eNoP δ) st P = P none st := by unfold eNoP; rw [w_pure]
theorem w_eP {f : EF} {P : Option Int → Sto → Prop} : W (eP f δ) st P = W (f δ) st fun d st1 => W (intO d) st1 P := by unfold eP; rw [w_bind]
theorem w_intO {i : Int} {P : Option Int → Sto → Prop} : W (intO (.int i)) st P = P (some i) st := W.eq rfl
theorem cut_map {α : Type} {l : List α} {m : α → D} {lo hi : Option Int} : ∃ l' : List α, cutD (l.map m) lo hi = l'.map m ∧ l'.length ≤ l.length := by
  unfold cutD
  rw [List.length_map]
  generalize HT.sIx l.length 0 lo = a
  generalize HT.sIx l.length l.length hi = b
  refine ⟨(l.drop a).take (b - a), by rw [List.map_take, List.map_drop], ?_⟩
  rw [List.length_take, List.length_drop]; omega
/-! ### comprehensions -/
/-- .. over a fixed number of items, that leaves the store as it is -/
theorem lcE {g : TgF} {el : EF} {n : Nat} {x f : Nat → D} {P : List D → Sto → Prop} (step : ∀ i, i < n → W (g (x i) δ) st fun δ1 st1 => W (el δ1) st1 fun y st2 => y = f i ∧ st2 = st) : W (lcM g eYes el δ (mapR n x)) st P = P (mapR n f) st := by
  refine w_of (w_lcM (fun r s => r = mapR r.length f ∧ s = st) (fun y r s hx I => ?_) (fun r s hr I => ?_) ⟨rfl, rfl⟩)
  · have hi : r.length < n := by
      rcases Nat.lt_or_ge r.length n with q | q
      · exact q
      · rw [List.getElem?_eq_none (by rw [mapR_len]; exact q)] at hx; cases hx
    rw [mapR_get hi] at hx
    cases hx
    obtain ⟨e1, e2⟩ := I
    rw [e2]
    refine (step _ hi).mono fun δ1 st1 q => q.mono fun y st2 q => ?_
    obtain ⟨q1, q2⟩ := q
    refine ⟨?_, q2⟩
    rw [List.length_append, List.length_singleton, mapR_succ, ← e1, q1]
  · obtain ⟨e1, e2⟩ := I
    rw [e2, e1, hr, mapR_len]
    exact ⟨rfl, rfl⟩
/-- .. that changes the store: J holds of it -/
theorem lcJ {γ : Type} {g : TgF} {el : EF} {n : Nat} {x : Nat → D} {enc : γ → D} {Q : Nat → γ → Prop} (J : Sto → Prop) {P : List D → Sto → Prop} (i0 : γ)
    (step : ∀ i s, i < n → J s → W (g (x i) δ) s fun δ1 s1 => W (el δ1) s1 fun y s2 => ∃ v, y = enc v ∧ Q i v ∧ J s2)
    (done : ∀ (f : Nat → γ) s, (∀ i, i < n → Q i (f i)) → J s → P (mapR n fun i => enc (f i)) s) (h0 : J st) : W (lcM g eYes el δ (mapR n x)) st P := by
  refine w_lcM (fun r s => (∃ f : Nat → γ, r = mapR r.length (fun i => enc (f i)) ∧ ∀ i, i < r.length → Q i (f i)) ∧ J s) (fun y r s hx I => ?_) (fun r s hr I => ?_) ⟨⟨fun _ => i0, rfl, fun i h => absurd h (Nat.not_lt_zero _)⟩, h0⟩
  · have hi : r.length < n := by
      rcases Nat.lt_or_ge r.length n with q | q
      · exact q
      · rw [List.getElem?_eq_none (by rw [mapR_len]; exact q)] at hx; cases hx
    rw [mapR_get hi] at hx
    cases hx
    obtain ⟨⟨f, e1, e2⟩, hJ⟩ := I
    refine (step _ s hi hJ).mono fun δ1 st1 q => q.mono fun y st2 q => ?_
    obtain ⟨v, q1, q2, q3⟩ := q
    refine ⟨⟨fun i => if i = r.length then v else f i, ?_, fun i h => ?_⟩, q3⟩
    · rw [List.length_append, List.length_singleton, mapR_succ, q1]
      dsimp only
      rw [if_pos rfl]
      congr 1
      refine e1.trans (mapR_ext fun i h => ?_)
      rw [if_neg (by omega)]
    · rw [List.length_append, List.length_singleton] at h
      by_cases z : i = r.length
      · subst z
        dsimp only
        rw [if_pos rfl]
        exact q2
      · dsimp only
        rw [if_neg z]
        exact e2 i (by omega)
  · obtain ⟨⟨f, e1, e2⟩, hJ⟩ := I
    rw [mapR_len] at hr
    rw [e1, hr]
    rw [hr] at e2
    exact done f s e2 hJ
/-- .. with a test -/
theorem lcF {g : TgF} {tt : En → M Bool} {el : EF} {ok : Nat → Bool} {f x : Nat → D} {n : Nat} {P : List D → Sto → Prop}
    (step : ∀ i, i < n → W (g (x i) δ) st fun δ1 st1 => W (tt δ1) st1 fun b st2 => (b = ok i ∧ st2 = st) ∧ (ok i = true → W (el δ1) st2 fun y st3 => y = f i ∧ st3 = st)) :
    W (lcM g tt el δ (mapR n x)) st P = P (((List.range n).filter ok).map f) st := by
  have key : ∀ (l : List Nat), (∀ i ∈ l, i < n) → W (lcM g tt el δ (l.map x)) st fun r s => r = ((l.filter ok).map f) ∧ s = st := by
    intro l
    induction l with
    | nil => intro _; show W (M.pure []) st _; rw [w_pure]; exact ⟨rfl, rfl⟩
    | cons i l ih =>
      intro hl
      show W (lcM g tt el δ (x i :: l.map x)) st _
      unfold lcM
      rw [w_bind]
      refine (step i (hl i (List.mem_cons_self))).mono fun δ1 st1 q => ?_
      rw [w_bind]
      refine q.mono fun b st2 q => ?_
      obtain ⟨⟨rfl, rfl⟩, q⟩ := q
      cases hb : ok i with
      | true =>
        rw [if_pos rfl, w_bind]
        refine (q hb).mono fun y st3 q => ?_
        obtain ⟨rfl, rfl⟩ := q
        rw [w_bind]
        refine (ih fun j hj => hl j (List.mem_cons_of_mem _ hj)).mono fun r s q => ?_
        obtain ⟨rfl, rfl⟩ := q
        rw [w_pure, List.filter_cons, if_pos hb]
        exact ⟨rfl, rfl⟩
      | false =>
        rw [if_neg (by simp)]
        refine (ih fun j hj => hl j (List.mem_cons_of_mem _ hj)).mono fun r s q => ?_
        rw [List.filter_cons, if_neg (by simp [hb])]
        exact q
  exact w_of (key (List.range n) fun i hi => List.mem_range.mp hi)
/-! ### loops -/
/-- a loop that keeps the names as they are; J holds of the store -/
theorem forJ {g : TgF} {body : SF} {n : Nat} {x : Nat → D} {P : Fl → Sto → Prop} (J : Nat → Sto → Prop)
    (step : ∀ i s, i < n → J i s → W (g (x i) δ) s fun δ1 s1 => W (body δ1) s1 fun fl s2 => match fl with | .nx δ' => δ' = δ ∧ J (i + 1) s2 | .ct δ' => δ' = δ ∧ J (i + 1) s2 | .bk _ => False | .rt d => P (.rt d) s2)
    (done : ∀ s, J n s → P (.nx δ) s) (h0 : J 0 st) : W (forM g body (mapR n x) δ) st P := by
  refine w_forM (fun i δ' s => δ' = δ ∧ J i s) (fun i y δ' s hx I => ?_) (fun δ' s I => ?_) ⟨rfl, h0⟩
  · have hi : i < n := by
      rcases Nat.lt_or_ge i n with q | q
      · exact q
      · rw [List.getElem?_eq_none (by rw [mapR_len]; exact q)] at hx; cases hx
    rw [mapR_get hi] at hx
    obtain rfl := Option.some.inj hx
    obtain ⟨rfl, hJ⟩ := I
    exact step i s hi hJ
  · obtain ⟨rfl, hJ⟩ := I
    rw [mapR_len] at hJ
    exact done s hJ
/-- a loop whose names change with the turns -/
theorem forV {g : TgF} {body : SF} {n : Nat} {x : Nat → D} {P : Fl → Sto → Prop} (V : Nat → En → Sto → Prop)
    (step : ∀ i δ s, i < n → V i δ s → W (g (x i) δ) s fun δ1 s1 => W (body δ1) s1 fun fl s2 => match fl with | .nx δ' => V (i + 1) δ' s2 | .ct δ' => V (i + 1) δ' s2 | .bk _ => False | .rt d => P (.rt d) s2)
    (done : ∀ δ s, V n δ s → P (.nx δ) s) (h0 : V 0 δ st) : W (forM g body (mapR n x) δ) st P := by
  refine w_forM V (fun i y δ' s hx I => ?_) (fun δ' s I => ?_) h0
  · have hi : i < n := by
      rcases Nat.lt_or_ge i n with q | q
      · exact q
      · rw [List.getElem?_eq_none (by rw [mapR_len]; exact q)] at hx; cases hx
    rw [mapR_get hi] at hx
    obtain rfl := Option.some.inj hx
    exact step i δ' s hi I
  · rw [mapR_len] at I
    exact done δ' s I
/-! ### what lies below -/
theorem belowDs_mapR {k n : Nat} {f : Nat → D} : belowDs k (mapR n f) = (List.range n).all fun i => belowD k (f i) := by
  unfold mapR
  generalize List.range n = l
  induction l with
  | nil => rfl
  | cons x xs ih => show belowDs k (f x :: xs.map f) = _; unfold belowDs; rw [ih]; rfl
theorem belowDs_map' {α : Type} {k : Nat} {l : List α} {f : α → D} : belowDs k (l.map f) = l.all fun i => belowD k (f i) := by
  induction l with
  | nil => rfl
  | cons x xs ih => show belowDs k (f x :: xs.map f) = _; unfold belowDs; rw [ih]; rfl
theorem belowDs_app' {k : Nat} : ∀ {xs ys : List D}, belowDs k (xs ++ ys) = (belowDs k xs && belowDs k ys)
  | [], ys => by rw [List.nil_append]; rfl
  | x :: xs, ys => by
    show belowDs k (x :: (xs ++ ys)) = _
    show (belowD k x && belowDs k (xs ++ ys)) = ((belowD k x && belowDs k xs) && belowDs k ys)
    rw [belowDs_app', Bool.and_assoc]
theorem belowDs_mapR' {k n : Nat} {f : Nat → D} (h : ∀ i, i < n → belowD k (f i) = true) : belowDs k (mapR n f) = true := by
  rw [belowDs_mapR, List.all_eq_true]
  exact fun i hi => h i (List.mem_range.mp hi)
theorem belowO_some {k : Nat} {d : D} : belowO k (some d) = belowD k d := rfl
theorem belowO_none {k : Nat} : belowO k none = true := rfl
theorem all_true' {α : Type} {l : List α} : (l.all fun _ => true) = true := by induction l <;> simp_all
theorem last_at {x : Cell} : (st ++ [x])[st.length]? = some x := by rw [List.getElem?_append_right (Nat.le_refl _), Nat.sub_self]; rfl
theorem last_set {x y : Cell} : (st ++ [x]).set st.length y = st ++ [y] := by rw [List.set_append_right _ _ (Nat.le_refl _), Nat.sub_self]; rfl
theorem frz_last {l : List D} (h : belowDs st.length l = true) : frz st.length (st ++ [Cell.lst l]) 4 (.obj st.length) = some (.lst l) := by
  unfold frz
  rw [if_neg (by unfold belowD; simp)]
  dsimp only
  rw [last_at]
  dsimp only
  have k : ∀ l : List D, belowDs st.length l = true → allM (frz st.length (st ++ [Cell.lst l]) 3) l = some l := by
    intro l
    have key : ∀ (X : Sto) (l : List D), belowDs st.length l = true → allM (frz st.length X 3) l = some l := by
      intro X l
      induction l with
      | nil => intro _; rfl
      | cons x xs ih =>
        intro hb
        unfold belowDs at hb
        rw [Bool.and_eq_true] at hb
        unfold allM
        rw [frz_bel hb.1, ih hb.2]
    exact key _ l
  rw [k l h]
theorem frz_ins {L : Nat} {C : Addr} {f : Str} {d : D} {X : Sto} (hX : X.length = L) (hd : belowD L d = true) : frz L (X ++ [.ins C [(f, d)]]) 4 (.obj L) = some (.ins C [(f, d)]) := by
  unfold frz
  rw [if_neg (by unfold belowD; simp)]
  dsimp only
  rw [← hX, List.getElem?_append_right (Nat.le_refl _), Nat.sub_self]
  simp only [List.getElem?_cons_zero]
  unfold frzFs
  rw [hX, frz_bel hd]
  unfold frzFs
  rfl
/-- what is new lies behind, what stands before has no new place -/
theorem tr_flat {n : Nat} {st1 : Sto} (hl : n ≤ st1.length) (h : ∀ i c, i < n → st1[i]? = some c → belowC n c = true) : TrOk n st st1 := ⟨hl, fun i c hi e => .inr (h i c hi e)⟩
/-- the end of a scope that left the store as it is -/
theorem w_scopeP {drop : List Nat} {f : SF} {P : Fl → Sto → Prop} (h : W (f δ) st fun fl st1 => st1 = st ∧ match fl with
    | .nx δ' => belowE st.length (unsetAll δ' drop) = true ∧ P (.nx (unsetAll δ' drop)) st
    | .ct δ' => belowE st.length (unsetAll δ' drop) = true ∧ P (.ct (unsetAll δ' drop)) st
    | fl => P fl st) : W (sScope drop f δ) st P := by
  refine w_scope (h.mono fun fl st1 q => ?_)
  obtain ⟨rfl, q⟩ := q
  cases fl with
  | nx δ' => exact ⟨.rfl', q.1, by rw [List.take_length]; exact q.2⟩
  | ct δ' => exact ⟨.rfl', q.1, by rw [List.take_length]; exact q.2⟩
  | rt d => exact q
  | bk δ' => exact q
theorem w_fldP {C : Addr} {fl : Str} {fo fe : EF} {P : Fl → Sto → Prop} (h : W (fe δ) st fun d st1 => W (fo δ) st1 fun o st2 => ∃ i, o = .obj i ∧ st2[i]? = some (.ins C []) ∧ P (.nx δ) (st2.set i (.ins C [(fl, d)]))) : W (sFldD C fl fo fe δ) st P := by
  unfold sFldD
  rw [w_bind]
  refine h.mono fun d st1 q => ?_
  rw [w_bind]
  refine q.mono fun o st2 q => ?_
  obtain ⟨i, rfl, hc, q⟩ := q
  dsimp only
  unfold W
  simp only [hc, putD, if_pos (And.intro (rfl : C = C) (show ([] : List (Str × D)).length < 1000 by decide))]
  exact q
/-- C(x): the only attribute is set -/
theorem w_make1 {C : Addr} {g : List D → M D} {xs : List D} {fl : Str} {d : D} {P : D → Sto → Prop} (hd : ∀ k, belowD k d = true) (h : W (g (.obj st.length :: xs)) (st ++ [.ins C []]) fun r s => r = .non ∧ s = st ++ [.ins C [(fl, d)]]) : W (makeM C g xs) st P = P (.ins C [(fl, d)]) st := by
  refine w_of (w_make (h.mono fun r s q => ?_))
  obtain ⟨rfl, rfl⟩ := q
  refine ⟨rfl, .app, _, frz_ins rfl (hd _), ?_⟩
  rw [List.take_left]
  exact ⟨rfl, rfl⟩
theorem init_end {C : Addr} {fl : Str} {d : D} (hd : ∀ k, belowD k d = true) : TrOk (st ++ [Cell.ins C []]).length (st ++ [Cell.ins C []]) (st ++ [Cell.ins C [(fl, d)]]) ∧ (st ++ [Cell.ins C [(fl, d)]]).take (st ++ [Cell.ins C []]).length = st ++ [Cell.ins C [(fl, d)]] := by
  refine ⟨?_, List.take_of_length_le (by simp)⟩
  have k1 : belowC (st ++ [Cell.ins C []]).length (.ins C [(fl, d)]) = true := by
    show belowFs _ _ = true
    unfold belowFs
    rw [hd]
    rfl
  have k2 := (TrOk.rfl' (st := st ++ [Cell.ins C []])).setb (j := st.length) k1
  rw [last_set] at k2
  exact k2
/-! ### a few items -/
theorem lcY_nil {g : TgF} {el : EF} {P : List D → Sto → Prop} : W (lcM g eYes el δ []) st P = P [] st := by show W (M.pure []) st P = _; rw [w_pure]
theorem lcY_cons {g : TgF} {el : EF} {x : D} {xs : List D} {P : List D → Sto → Prop} : W (lcM g eYes el δ (x :: xs)) st P = W (g x δ) st fun δ1 st1 => W (el δ1) st1 fun y st2 => W (lcM g eYes el δ xs) st2 fun r st3 => P (y :: r) st3 := by
  show W ((g x δ).bind fun δ1 => (eYes δ1).bind fun b => if b = true then (el δ1).bind fun y => (lcM g eYes el δ xs).bind fun r => M.pure (y :: r) else lcM g eYes el δ xs) st P = _
  rw [w_bind]; congr; funext δ1 st1
  rw [w_bind]
  unfold eYes
  rw [w_pure, if_pos rfl, w_bind]; congr; funext y st2
  rw [w_bind]; congr; funext r st3
  rw [w_pure]
theorem w_all2 {a b : Bool} {P : D → Sto → Prop} : W (allD [.lst [.bl a, .bl b]]) st P = P (.bl (a && b)) st := by
  refine (W.eq (a := .bl ([a, b].all id)) rfl).trans ?_
  simp
theorem at2_0 {α : Type} {a b : α} : atI [a, b] 0 = some a := rfl
theorem at2_1 {α : Type} {a b : α} : atI [a, b] 1 = some b := rfl
theorem at3_0 {α : Type} {a b c : α} : atI [a, b, c] 0 = some a := rfl
theorem at3_1 {α : Type} {a b c : α} : atI [a, b, c] 1 = some b := rfl
theorem at3_2 {α : Type} {a b c : α} : atI [a, b, c] 2 = some c := rfl
theorem at4_0 {α : Type} {a b c d : α} : atI [a, b, c, d] 0 = some a := rfl
theorem at4_1 {α : Type} {a b c d : α} : atI [a, b, c, d] 1 = some b := rfl
theorem at4_2 {α : Type} {a b c d : α} : atI [a, b, c, d] 2 = some c := rfl
theorem at4_3 {α : Type} {a b c d : α} : atI [a, b, c, d] 3 = some d := rfl
/-- an item, if it is there -/
def itm (o : Option D) (P : D → Sto → Prop) (st : Sto) : Prop := match o with
  | some d => P d st
  | none => False
theorem itm_some {d : D} {P : D → Sto → Prop} : itm (some d) P st = P d st := rfl
theorem ixLE {xs : List D} {i : Int} {P : D → Sto → Prop} : W (ixD (.lst xs) (.int i)) st P = itm (atI xs i) P st := by
  unfold W ixD asL itm
  dsimp only
  cases atI xs i <;> rfl
theorem ixFE {xs : List D} {i : Int} {P : D → Sto → Prop} : W (ixD (.fl xs) (.int i)) st P = itm (atI xs i) P st := by
  unfold W ixD asL itm
  dsimp only
  cases atI xs i <;> rfl
theorem ixTE {xs : List D} {i : Int} {P : D → Sto → Prop} : W (ixD (.tup xs) (.int i)) st P = itm (atI xs i) P st := by
  unfold W ixD asL asT itm
  dsimp only
  cases atI xs i <;> rfl
theorem ixOE {j : Nat} {xs : List D} {i : Int} {P : D → Sto → Prop} (h : st[j]? = some (.lst xs)) : W (ixD (.obj j) (.int i)) st P = itm (atI xs i) P st := by
  unfold W ixD asL itm
  simp only [h]
  cases atI xs i <;> rfl
theorem ixO0 {xs : List D} {R : Sto} {i : Int} {P : D → Sto → Prop} : W (ixD (.obj 0) (.int i)) (Cell.lst xs :: R) P = itm (atI xs i) P (Cell.lst xs :: R) := ixOE rfl
def put (o : Option Nat) (P : Unit → Sto → Prop) (j : Nat) (xs : List D) (d : D) (st : Sto) : Prop := match o with
  | some n => P () (st.set j (.lst (xs.set n d)))
  | none => False
theorem setOE {j : Nat} {xs : List D} {i : Int} {d : D} {P : Unit → Sto → Prop} (h : st[j]? = some (.lst xs)) : W (setD (.obj j) (.int i) d) st P = put (ixN xs.length i) P j xs d st := by
  unfold W setD put
  simp only [h]
  cases ixN xs.length i <;> rfl
theorem setO0 {xs : List D} {R : Sto} {i : Int} {d : D} {P : Unit → Sto → Prop} : W (setD (.obj 0) (.int i) d) (Cell.lst xs :: R) P = put (ixN xs.length i) P 0 xs d (Cell.lst xs :: R) := setOE rfl
theorem put_some {n j : Nat} {xs : List D} {d : D} {P : Unit → Sto → Prop} : put (some n) P j xs d st = P () (st.set j (.lst (xs.set n d))) := rfl
theorem ix2_0 : ixN 2 0 = some 0 := rfl
theorem ix2_1 : ixN 2 1 = some 1 := rfl
theorem ix4_0 : ixN 4 0 = some 0 := rfl
theorem ix4_1 : ixN 4 1 = some 1 := rfl
theorem ix4_2 : ixN 4 2 = some 2 := rfl
theorem ix4_3 : ixN 4 3 = some 3 := rfl
theorem w_addLL {xs ys : List D} {P : D → Sto → Prop} (h : xs.length + ys.length ≤ sizeLine) : W (addD (.lst xs) (.lst ys)) st P = P (.lst (xs ++ ys)) st := by
  refine W.eq ?_
  unfold addD asM
  dsimp only
  rw [if_pos h]
theorem rep_flat {α : Type} {n : Nat} {x : α} : (List.replicate n [x]).flatten = mapR n fun _ => x := by
  induction n with
  | zero => rfl
  | succ n ih =>
    rw [mapR_succ, ← ih, List.replicate_succ', List.flatten_append]
    rfl
theorem nat63 {n : Nat} (hn : n ≤ 1000) : -(2 ^ 63) ≤ (n : Int) ∧ (n : Int) < 2 ^ 63 :=
  ⟨Int.le_trans (by decide) (Int.natCast_nonneg n), Int.lt_of_le_of_lt (Int.ofNat_le.mpr hn) (by decide)⟩
theorem w_mulL {n : Nat} {x : D} {P : D → Sto → Prop} (hn : n ≤ 1000) : W (mulD (.lst [x]) (.int (n : Nat))) st P = P (.lst (mapR n fun _ => x)) st := by
  refine W.eq ?_
  unfold mulD asM
  dsimp only
  rw [if_pos ⟨(nat63 hn).1, (nat63 hn).2, by
    rw [Int.toNat_natCast, List.length_singleton, Nat.one_mul]
    exact Nat.le_trans hn (by decide)⟩, Int.toNat_natCast, rep_flat]
theorem w_mulN {n : Nat} {x : D} {P : D → Sto → Prop} (hn : n ≤ 1000) : W (mulN (.lst [x]) (.int (n : Nat))) st P = P (.obj st.length) (st ++ [.lst (mapR n fun _ => x)]) := by
  refine W.eq ?_
  unfold mulN asM
  dsimp only
  rw [if_pos ⟨(nat63 hn).1, (nat63 hn).2, by
    rw [Int.toNat_natCast, List.length_singleton, Nat.one_mul]
    exact Nat.le_trans hn (by decide)⟩, Int.toNat_natCast, rep_flat]
/-! ### a call that changes the first place alone -/
theorem tr_head {c c' : Cell} {R : Sto} (h : belowC (c :: R).length c' = true) : TrOk (c :: R).length (c :: R) (c' :: R) := by
  have := (TrOk.rfl' (st := c :: R)).setb (j := 0) h
  exact this
theorem callH {p m : Nat} {f : SF} {ds : List D} {P : D → Sto → Prop} {c : Cell} {R : Sto} (hp : ds.length = p) (h : W (f (startD m ds)) (c :: R) fun fl st1 => ∃ c', st1 = c' :: R ∧ (∀ k, belowC k c' = true) ∧ match fl with
    | .rt d => (∀ k, belowD k d = true) ∧ P d (c' :: R) | .nx _ => P .non (c' :: R) | _ => False) : W (callM p m f ds) (c :: R) P := by
  refine w_callM hp (h.mono fun fl st1 q => ?_)
  obtain ⟨c', rfl, hc, q⟩ := q
  refine ⟨tr_head (hc _), ?_⟩
  have e : (c' :: R).take (c :: R).length = c' :: R := List.take_of_length_le (Nat.le_refl _)
  cases fl with
  | rt d => exact ⟨d, frz_bel (q.1 _), by rw [e]; exact q.2⟩
  | nx δ => show P .non _; rw [e]; exact q
  | bk δ => exact q
  | ct δ => exact q
/-- .. of a scope -/
theorem scopeH {drop : List Nat} {f : SF} {P : Fl → Sto → Prop} {c : Cell} {R : Sto} (h : W (f δ) (c :: R) fun fl st1 => match fl with
    | .nx δ' => ∃ c' R', st1 = c' :: R ++ R' ∧ belowC (R.length + 1) c' = true ∧ belowE (R.length + 1) (unsetAll δ' drop) = true ∧ P (.nx (unsetAll δ' drop)) (c' :: R)
    | .ct δ' => ∃ c' R', st1 = c' :: R ++ R' ∧ belowC (R.length + 1) c' = true ∧ belowE (R.length + 1) (unsetAll δ' drop) = true ∧ P (.ct (unsetAll δ' drop)) (c' :: R)
    | fl => P fl st1) : W (sScope drop f δ) (c :: R) P := by
  have key : ∀ (c' : Cell) (R' : Sto), belowC (R.length + 1) c' = true → TrOk (c :: R).length (c :: R) (c' :: R ++ R') ∧ (c' :: R ++ R').take (c :: R).length = c' :: R := fun c' R' hc =>
    ⟨(tr_head (c := c) (R := R) hc).appr, by rw [show (c :: R).length = (c' :: R).length from rfl, List.take_left]⟩
  refine w_scope (h.mono fun fl st1 q => ?_)
  cases fl with
  | nx δ' =>
    obtain ⟨c', R', rfl, h1, h2, h3⟩ := q
    exact ⟨(key c' R' h1).1, h2, by rw [(key c' R' h1).2]; exact h3⟩
  | ct δ' =>
    obtain ⟨c', R', rfl, h1, h2, h3⟩ := q
    exact ⟨(key c' R' h1).1, h2, by rw [(key c' R' h1).2]; exact h3⟩
  | rt d => exact q
  | bk δ' => exact q
/-! ### what *, // and ** ask -/
def mulOk (i j : Int) : Prop := ((-(2 ^ 64) < i ∧ i < 2 ^ 64) ∨ (-(2 ^ 64) < j ∧ j < 2 ^ 64)) ∨ i.natAbs.log2 + j.natAbs.log2 < 1000000
def divOk (j : Int) : Prop := 0 < j ∧ j.natAbs < 2 ^ 9000
def powOk (i j : Int) : Prop := 0 ≤ j ∧ j ≤ 1000000 ∧ i.natAbs < 2 ^ 64
theorem mulOk_r {i j : Int} (h1 : -(2 ^ 64) < j) (h2 : j < 2 ^ 64) : mulOk i j := .inl (.inr ⟨h1, h2⟩)
theorem mulOk_l {i j : Int} (h1 : -(2 ^ 64) < i) (h2 : i < 2 ^ 64) : mulOk i j := .inl (.inl ⟨h1, h2⟩)
theorem big9000 : 2 ^ 64 ≤ 2 ^ 9000 := by decide +kernel
theorem divOk_of {j : Int} (h1 : 0 < j) (h2 : j < 2 ^ 64) : divOk j := ⟨h1, Nat.lt_of_lt_of_le (show j.natAbs < 2 ^ 64 by omega) big9000⟩
theorem powOk_of {i j : Int} (h : 0 ≤ j ∧ j ≤ 1000000) (h1 : -(2 ^ 64) < i) (h2 : i < 2 ^ 64) : powOk i j := ⟨h.1, h.2, by omega⟩
theorem w_mulE {i j : Int} {P : D → Sto → Prop} : W (mulD (.int i) (.int j)) st P = (mulOk i j ∧ P (.int (i * j)) st) := w_mul
theorem w_divE {i j : Int} {P : D → Sto → Prop} : W (divD (.int i) (.int j)) st P = (divOk j ∧ P (.int (i / j)) st) := w_div
theorem w_powE {i j : Int} {P : D → Sto → Prop} : W (powD (.int i) (.int j)) st P = (powOk i j ∧ P (.int (i ^ j.toNat)) st) := w_pow
/-! ### in -/
theorem allM_any {k : Nat} {g : PyData → Bool} {q : D → Bool} : ∀ {l : List D}, (∀ d ∈ l, ∃ p, datD st k d = some p ∧ g p = q d) → ∃ ps, allM (datD st k) l = some ps ∧ ps.any g = l.any q
  | [], _ => ⟨[], rfl, rfl⟩
  | x :: xs, h => by
    obtain ⟨p, h1, h2⟩ := h x (List.mem_cons_self)
    obtain ⟨ps, h3, h4⟩ := allM_any fun d hd => h d (List.mem_cons_of_mem _ hd)
    exact ⟨p :: ps, by unfold allM; rw [h1, h3], by rw [List.any_cons, List.any_cons, h2, h4]⟩
theorem w_inL {x : D} {l : List D} {p : PyData} {q : D → Bool} {P : D → Sto → Prop} (hx : datD st 8 x = some p) (h : ∀ d ∈ l, ∃ y, datD st 7 d = some y ∧ PyData.eqv y p = q d) : W (inD x (.lst l)) st P = P (.bl (l.any q)) st := by
  obtain ⟨ps, h1, h2⟩ := allM_any (g := fun y => PyData.eqv y p) h
  refine W.eq ?_
  unfold inD
  rw [hx, datD_lst h1]
  dsimp only
  rw [h2]
theorem w_true {α : Type} {m : M α} {a : α} (h : W m st fun d _ => d = a) : ∃ st', m st = some (.ok a st') := by
  unfold W at h
  cases e : m st with
  | none => rw [e] at h; exact h.elim
  | some r =>
    rw [e] at h
    cases r with
    | ok d s => dsimp only at h; rw [h]; exact ⟨s, rfl⟩
    | er C fs s => exact h.elim
theorem w_r1Z {i : Int} {P : List D → Sto → Prop} (h0 : 0 ≤ i) (h : i ≤ 1000) : W (rng1 [.int i]) st P = P (mapR i.toNat fun j => .int (j : Nat)) st := by
  obtain ⟨n, rfl⟩ : ∃ n : Nat, i = (n : Nat) := ⟨i.toNat, (Int.toNat_of_nonneg h0).symm⟩
  rw [w_r1 (by omega), Int.toNat_natCast]
/-! ### append, +=, what is taken out of the store -/
theorem w_eApp {fo fe : EF} {P : D → Sto → Prop} : W (eApp fo fe δ) st P = W (fo δ) st fun o st1 => W (isLO o) st1 fun _ st2 => W (fe δ) st2 fun d st3 => W (appD o d) st3 P := by
  unfold eApp
  rw [w_bind]; congr; funext o st1
  rw [w_bind]; congr; funext _ st2
  rw [w_bind]
theorem isLOE {j : Nat} {xs : List D} {P : Unit → Sto → Prop} (h : st[j]? = some (.lst xs)) : W (isLO (.obj j)) st P = P () st := W.eq (by unfold isLO; simp only [h])
theorem appE {j : Nat} {xs : List D} {d : D} {P : D → Sto → Prop} (h : st[j]? = some (.lst xs)) (hl : xs.length < sizeLine) : W (appD (.obj j) d) st P = P .non (st.set j (.lst (xs ++ [d]))) := W.eq (by unfold appD; simp only [h]; rw [if_pos hl])
theorem at_behind {c x : Cell} {R : Sto} : (c :: (R ++ [x]))[R.length + 1]? = some x := by
  show (R ++ [x])[R.length]? = some x
  exact last_at
theorem set_behind {c x y : Cell} {R : Sto} : (c :: (R ++ [x])).set (R.length + 1) y = c :: (R ++ [y]) := by
  show c :: (R ++ [x]).set R.length y = c :: (R ++ [y])
  rw [last_set]
theorem isLO_b {c : Cell} {R : Sto} {xs : List D} {P : Unit → Sto → Prop} : W (isLO (.obj (R.length + 1))) (c :: (R ++ [.lst xs])) P = P () (c :: (R ++ [.lst xs])) := isLOE at_behind
theorem app_b {c : Cell} {R : Sto} {xs : List D} {d : D} {P : D → Sto → Prop} (hl : xs.length < sizeLine) : W (appD (.obj (R.length + 1)) d) (c :: (R ++ [.lst xs])) P = P .non (c :: (R ++ [.lst (xs ++ [d])])) := by rw [appE at_behind hl, set_behind]
theorem ix_b {c : Cell} {R : Sto} {xs : List D} {i : Int} {P : D → Sto → Prop} : W (ixD (.obj (R.length + 1)) (.int i)) (c :: (R ++ [.lst xs])) P = itm (atI xs i) P (c :: (R ++ [.lst xs])) := ixOE at_behind
/-- a call that changes the first place, and gives back a list that it made -/
theorem frz_b {c : Cell} {R : Sto} {xs : List D} (h : ∀ k, belowDs k xs = true) : frz (R.length + 1) (c :: (R ++ [Cell.lst xs])) 4 (.obj (R.length + 1)) = some (.lst xs) := frz_last (st := c :: R) (h _)
theorem callHL {p m : Nat} {f : SF} {ds : List D} {P : D → Sto → Prop} {c : Cell} {R : Sto} (hp : ds.length = p) (h : W (f (startD m ds)) (c :: R) fun fl st1 => ∃ c' xs, st1 = c' :: (R ++ [.lst xs]) ∧ (∀ k, belowC k c' = true) ∧ (∀ k, belowDs k xs = true) ∧ fl = .rt (.obj (R.length + 1)) ∧ P (.lst xs) (c' :: R)) : W (callM p m f ds) (c :: R) P := by
  refine w_callM hp (h.mono fun fl st1 q => ?_)
  obtain ⟨c', xs, rfl, hc, hx, rfl, q⟩ := q
  refine ⟨(tr_head (c := c) (R := R) (hc _)).appr, _, frz_b hx, ?_⟩
  have e : (c' :: (R ++ [Cell.lst xs])).take (c :: R).length = c' :: R := by
    show (c' :: R ++ [Cell.lst xs]).take (c' :: R).length = c' :: R
    exact List.take_left
  rw [e]
  exact q
/-- .. a call that makes a list, and leaves the rest as it is -/
theorem callL {p m : Nat} {f : SF} {ds : List D} {P : D → Sto → Prop} {xs : List D} (hp : ds.length = p) (h : W (f (startD m ds)) st fun fl st1 => st1 = st ++ [.lst xs] ∧ (∀ k, belowDs k xs = true) ∧ fl = .rt (.obj st.length)) : W (callM p m f ds) st P = P (.lst xs) st := by
  refine w_of (w_callM hp (h.mono fun fl st1 q => ?_))
  obtain ⟨rfl, hx, rfl⟩ := q
  refine ⟨.app, _, frz_last (hx _), ?_⟩
  rw [List.take_left]
  exact ⟨rfl, rfl⟩
theorem w_aug1 {f : Int → Int → Int} {fo fi fv : EF} {P : Fl → Sto → Prop} (h : W (fo δ) st fun o st1 => W (fi δ) st1 fun i st2 => W (getLD o i) st2 fun x st3 => W (fv δ) st3 fun y st4 => W (augI f x y) st4 fun z st5 => W (setD o i z) st5 fun _ st6 => P (.nx δ) st6) : W (sAug f fo fi fv δ) st P := by
  unfold sAug
  rw [w_bind]; refine h.mono fun o st1 h => ?_
  rw [w_bind]; refine h.mono fun o st1 h => ?_
  rw [w_bind]; refine h.mono fun o st1 h => ?_
  rw [w_bind]; refine h.mono fun o st1 h => ?_
  rw [w_bind]; refine h.mono fun o st1 h => ?_
  rw [w_bind]; refine h.mono fun o st1 h => ?_
  rw [w_pure]
  exact h
theorem augIE {f : Int → Int → Int} {i j : Int} {P : D → Sto → Prop} : W (augI f (.int i) (.int j)) st P = P (.int (f i j)) st := W.eq rfl
theorem getLDE {j : Nat} {xs : List D} {i : Int} {P : D → Sto → Prop} (h : st[j]? = some (.lst xs)) : W (getLD (.obj j) (.int i)) st P = itm (atI xs i) P st := by
  unfold W getLD asL itm
  simp only [h]
  cases atI xs i <;> rfl
theorem w_eMv {f : EF} {P : D → Sto → Prop} : W (eMv f δ) st P = W (f δ) st fun d st1 => W (mvD d) st1 P := by unfold eMv; rw [w_bind]
theorem mvE {j : Nat} {xs : List D} {P : D → Sto → Prop} (h : st[j]? = some (.lst xs)) : W (mvD (.obj j)) st P = P (.lst xs) (st.set j .dead) := W.eq (by unfold mvD; simp only [h])
theorem w_one {r : D → M D} {d : D} {P : D → Sto → Prop} : W (oneD r [d]) st P = W (r d) st P := rfl
theorem w_bolO {C : Addr} {g : List D → M D} {fs : List (Str × D)} {b : Bool} (h : ∀ {P : D → Sto → Prop}, W (g [.ins C fs]) st P = P (.bl b) st) {P : D → Sto → Prop} : W (bolOD C g (.ins C fs)) st P = P (.bl b) st := by
  unfold bolOD
  rw [w_bind, w_own, h]
  exact W.eq rfl
theorem w_eqO {C C' : Addr} {g : List D → M D} {ok : Tg → Bool} {fs fs' : List (Str × D)} (h : ok (.inr C') = true) {P : D → Sto → Prop} : W (eqOD C g ok (.ins C fs) (.ins C' fs')) st P = W (g [.ins C fs, .ins C' fs']) st fun d st1 => W (bD d) st1 fun b st2 => P (.bl b) st2 := by
  have e : eqOD C g ok (.ins C fs) (.ins C' fs') st = ((ownM C g (.ins C fs) [.ins C' fs']).bind fun d => (bD d).bind fun b => M.pure (.bl b)) st := by
    unfold eqOD tagD
    dsimp only
    rw [if_pos h]
  have k : W (eqOD C g ok (.ins C fs) (.ins C' fs')) st P = W ((ownM C g (.ins C fs) [.ins C' fs']).bind fun d => (bD d).bind fun b => M.pure (.bl b)) st P := by unfold W; rw [e]
  rw [k, w_bind, w_own]; congr; funext d st1
  rw [w_bind]; congr; funext d st1
  rw [w_pure]
theorem w_neO {C C' : Addr} {g : List D → M D} {ok : Tg → Bool} {fs fs' : List (Str × D)} (h : ok (.inr C') = true) {P : D → Sto → Prop} : W (neOD C g ok (.ins C fs) (.ins C' fs')) st P = W (g [.ins C fs, .ins C' fs']) st fun d st1 => W (bD d) st1 fun b st2 => P (.bl (!b)) st2 := by
  have e : neOD C g ok (.ins C fs) (.ins C' fs') st = ((ownM C g (.ins C fs) [.ins C' fs']).bind fun d => (bD d).bind fun b => M.pure (.bl (!b))) st := by
    unfold neOD tagD
    dsimp only
    rw [if_pos h]
  have k : W (neOD C g ok (.ins C fs) (.ins C' fs')) st P = W ((ownM C g (.ins C fs) [.ins C' fs']).bind fun d => (bD d).bind fun b => M.pure (.bl (!b))) st P := by unfold W; rw [e]
  rw [k, w_bind, w_own]; congr; funext d st1
  rw [w_bind]; congr; funext d st1
  rw [w_pure]
/-- the other side is of a built-in kind -/
theorem w_eqOb {C : Addr} {g : List D → M D} {ok : Tg → Bool} {fs : List (Str × D)} {x : D} {t : Tg} (ht : tagD st x = some t) (h : ok t = true) {P : D → Sto → Prop} : W (eqOD C g ok (.ins C fs) x) st P = W (g [.ins C fs, x]) st fun d st1 => W (bD d) st1 fun b st2 => P (.bl b) st2 := by
  have e : eqOD C g ok (.ins C fs) x st = ((ownM C g (.ins C fs) [x]).bind fun d => (bD d).bind fun b => M.pure (.bl b)) st := by
    unfold eqOD
    rw [ht]
    dsimp only
    rw [if_pos h]
  have k : W (eqOD C g ok (.ins C fs) x) st P = W ((ownM C g (.ins C fs) [x]).bind fun d => (bD d).bind fun b => M.pure (.bl b)) st P := by unfold W; rw [e]
  rw [k, w_bind, w_own]; congr; funext d st1
  rw [w_bind]; congr; funext d st1
  rw [w_pure]
theorem w_neOb {C : Addr} {g : List D → M D} {ok : Tg → Bool} {fs : List (Str × D)} {x : D} {t : Tg} (ht : tagD st x = some t) (h : ok t = true) {P : D → Sto → Prop} : W (neOD C g ok (.ins C fs) x) st P = W (g [.ins C fs, x]) st fun d st1 => W (bD d) st1 fun b st2 => P (.bl (!b)) st2 := by
  have e : neOD C g ok (.ins C fs) x st = ((ownM C g (.ins C fs) [x]).bind fun d => (bD d).bind fun b => M.pure (.bl (!b))) st := by
    unfold neOD
    rw [ht]
    dsimp only
    rw [if_pos h]
  have k : W (neOD C g ok (.ins C fs) x) st P = W ((ownM C g (.ins C fs) [x]).bind fun d => (bD d).bind fun b => M.pure (.bl (!b))) st P := by unfold W; rw [e]
  rw [k, w_bind, w_own]; congr; funext d st1
  rw [w_bind]; congr; funext d st1
  rw [w_pure]
theorem okTg_self {C : Addr} : okTg C (.inr C) = true := by unfold okTg; exact decide_eq_true rfl
/-- a loop over few values that keeps the names and the store -/
theorem forK {g : TgF} {body : SF} {P : Fl → Sto → Prop} {xs : List D}
    (step : ∀ x, x ∈ xs → W (g x δ) st fun δ1 s1 => W (body δ1) s1 fun fl s2 => match fl with | .nx δ' => δ' = δ ∧ s2 = st | .ct δ' => δ' = δ ∧ s2 = st | .bk _ => False | .rt d => P (.rt d) s2)
    (done : P (.nx δ) st) : W (forM g body xs δ) st P := by
  refine w_forM (fun _ δ' s => δ' = δ ∧ s = st) (fun i x δ' s hx I => ?_) (fun δ' s I => by rw [I.1, I.2]; exact done) ⟨rfl, rfl⟩
  rw [I.1, I.2]
  exact step x (List.mem_of_getElem? hx)
/-- .. over a fixed number of items -/
theorem forR {g : TgF} {body : SF} {P : Fl → Sto → Prop} {n : Nat} {x : Nat → D}
    (step : ∀ i, i < n → W (g (x i) δ) st fun δ1 s1 => W (body δ1) s1 fun fl s2 => match fl with | .nx δ' => δ' = δ ∧ s2 = st | .ct δ' => δ' = δ ∧ s2 = st | .bk _ => False | .rt d => P (.rt d) s2)
    (done : P (.nx δ) st) : W (forM g body (mapR n x) δ) st P := forK (fun y hy => by
      obtain ⟨i, hi, rfl⟩ := mem_mapR hy
      exact step i hi) done
/-- .. over a list, by turns -/
theorem forL {γ : Type} {g : TgF} {body : SF} {P : Fl → Sto → Prop} {l : List γ} {m : γ → D} (V : List γ → En → Sto → Prop)
    (step : ∀ pre y post δ s, l = pre ++ y :: post → V pre δ s → W (g (m y) δ) s fun δ1 s1 => W (body δ1) s1 fun fl s2 => match fl with | .nx δ' => V (pre ++ [y]) δ' s2 | .ct δ' => V (pre ++ [y]) δ' s2 | .bk _ => False | .rt d => P (.rt d) s2)
    (done : ∀ δ s, V l δ s → P (.nx δ) s) (h0 : V [] δ st) : W (forM g body (l.map m) δ) st P := by
  refine w_forM (fun i δ' s => V (l.take i) δ' s) (fun i x δ' s hx I => ?_) (fun δ' s I => done δ' s (by rw [List.length_map, List.take_length] at I; exact I)) h0
  rw [List.getElem?_map] at hx
  cases e : l[i]? with
  | none => rw [e] at hx; cases hx
  | some y =>
    rw [e] at hx
    cases hx
    have hi : i < l.length := (List.getElem?_eq_some_iff.mp e).1
    have hy : l[i] = y := (List.getElem?_eq_some_iff.mp e).2
    have e1 : l = l.take i ++ y :: l.drop (i + 1) := by
      conv => lhs; rw [← List.take_append_drop i l, List.drop_eq_getElem_cons hi, hy]
    have e2 : l.take (i + 1) = l.take i ++ [y] := by rw [List.take_succ, e]; rfl
    have q := step (l.take i) y (l.drop (i + 1)) δ' s e1 I
    rw [← e2] at q
    exact q
theorem datR_lstL {α : Type} {k : Nat} {l : List α} {m : α → D} (h : ∀ x ∈ l, DatR st k (m x)) : DatR st (k + 1) (.lst (l.map m)) := datR_lst fun d hd => by
  obtain ⟨x, hx, rfl⟩ := List.mem_map.mp hd
  exact h x hx
/-- a loop whose own name is used elsewhere, too: it stays as the last turn left it -/
theorem forRj {g : TgF} {body : SF} {P : Fl → Sto → Prop} {n : Nat} {x : Nat → D} (j : Nat) (o0 : Option D) (h0 : δ[j]? = some o0) (hb0 : ∀ k, belowO k o0 = true)
    (step : ∀ i o, i < n → (∀ k, belowO k o = true) → W (g (x i) (δ.set j o)) st fun δ1 s1 => W (body δ1) s1 fun fl s2 => match fl with | .nx δ' => (∃ o, δ' = δ.set j o ∧ ∀ k, belowO k o = true) ∧ s2 = st | .ct δ' => (∃ o, δ' = δ.set j o ∧ ∀ k, belowO k o = true) ∧ s2 = st | .bk _ => False | .rt d => P (.rt d) s2)
    (done : ∀ o, (∀ k, belowO k o = true) → P (.nx (δ.set j o)) st) : W (forM g body (mapR n x) δ) st P := by
  have e : δ = δ.set j o0 := by
    have hj := (List.getElem?_eq_some_iff.mp h0).1
    rw [← (List.getElem?_eq_some_iff.mp h0).2, List.set_getElem_self]
  refine forV (fun _ δ' s => (∃ o, δ' = δ.set j o ∧ ∀ k, belowO k o = true) ∧ s = st) (fun i δ' s hi I => ?_) (fun δ' s I => ?_) ⟨⟨o0, e, hb0⟩, rfl⟩
  · obtain ⟨⟨o, rfl, ho⟩, rfl⟩ := I
    exact step i o hi ho
  · obtain ⟨⟨o, rfl, ho⟩, rfl⟩ := I
    exact done o ho
/-- the end of a scope that changed the first place and the last one -/
theorem scopeHB {drop : List Nat} {f : SF} {P : Fl → Sto → Prop} {c x : Cell} {R : Sto} (h : W (f δ) (c :: (R ++ [x])) fun fl st1 => match fl with
    | .nx δ' => ∃ c' x', st1 = c' :: (R ++ [x']) ∧ (∀ k, belowC k c' = true) ∧ (∀ k, belowC k x' = true) ∧ belowE (R.length + 2) (unsetAll δ' drop) = true ∧ P (.nx (unsetAll δ' drop)) (c' :: (R ++ [x']))
    | .ct δ' => ∃ c' x', st1 = c' :: (R ++ [x']) ∧ (∀ k, belowC k c' = true) ∧ (∀ k, belowC k x' = true) ∧ belowE (R.length + 2) (unsetAll δ' drop) = true ∧ P (.ct (unsetAll δ' drop)) (c' :: (R ++ [x']))
    | fl => P fl st1) : W (sScope drop f δ) (c :: (R ++ [x])) P := by
  have hn : (c :: (R ++ [x])).length = R.length + 2 := by simp
  have key : ∀ (c' x' : Cell), (∀ k, belowC k c' = true) → (∀ k, belowC k x' = true) → TrOk (c :: (R ++ [x])).length (c :: (R ++ [x])) (c' :: (R ++ [x'])) ∧ (c' :: (R ++ [x'])).take (c :: (R ++ [x])).length = c' :: (R ++ [x']) := fun c' x' hc hx => by
    refine ⟨?_, List.take_of_length_le (by simp)⟩
    have t1 := (TrOk.rfl' (st := c :: (R ++ [x]))).setb (j := 0) (hc _)
    have t2 := t1.setb (j := R.length + 1) (hx _)
    have e : ((c :: (R ++ [x])).set 0 c').set (R.length + 1) x' = c' :: (R ++ [x']) := by
      show (c' :: (R ++ [x])).set (R.length + 1) x' = _
      exact set_behind
    rw [e] at t2
    exact t2
  refine w_scope (h.mono fun fl st1 q => ?_)
  cases fl with
  | nx δ' =>
    obtain ⟨c', x', rfl, h1, h2, h3, h4⟩ := q
    exact ⟨(key c' x' h1 h2).1, by rw [hn]; exact h3, by rw [(key c' x' h1 h2).2]; exact h4⟩
  | ct δ' =>
    obtain ⟨c', x', rfl, h1, h2, h3, h4⟩ := q
    exact ⟨(key c' x' h1 h2).1, by rw [hn]; exact h3, by rw [(key c' x' h1 h2).2]; exact h4⟩
  | rt d => exact q
  | bk δ' => exact q
/-! ### C(..) of lists of the store -/
theorem w_eMakeF {C : Addr} {g : List D → M D} {f : En → M (List D)} {P : D → Sto → Prop} : W (eMakeF C g f δ) st P = W (f δ) st fun xs st1 => W (frzM (makeM C g) xs) st1 P := by unfold eMakeF; rw [w_bind]
theorem frzE {r : List D → M D} {ds ds' : List D} {d : D} {P : D → Sto → Prop} (h : allM (snp st 3) ds = some ds') (hn : noL d = true) (hb : belowD 0 d = true) (hr : W (r ds') [] fun e _ => e = d) : W (frzM r ds) st P = P d st := by
  refine W.eq ?_
  obtain ⟨s, hs⟩ := w_true hr
  unfold frzM
  rw [h]
  dsimp only
  rw [hs]
  dsimp only
  rw [if_pos ⟨hn, hb⟩]
theorem snp_below {k : Nat} {d : D} (h : belowD 0 d = true) : snp st k d = some d := by cases k <;> (unfold snp; rw [if_pos h])
theorem allM_below {k : Nat} : ∀ {l : List D}, belowDs 0 l = true → allM (snp st k) l = some l
  | [], _ => rfl
  | x :: xs, h => by
    unfold belowDs at h
    rw [Bool.and_eq_true] at h
    unfold allM
    rw [snp_below h.1, allM_below h.2]
theorem snp_obj {k j : Nat} {xs ys : List D} (h : st[j]? = some (.lst xs)) (hx : allM (snp st k) xs = some ys) : snp st (k + 1) (.obj j) = some (.lst ys) := by
  unfold snp
  rw [if_neg (by unfold belowD; simp)]
  simp only [h, hx]
theorem snapO {j : Nat} {xs : List D} (h : st[j]? = some (.lst xs)) (hb : belowDs 0 xs = true) : allM (snp st 3) [.obj j] = some [.lst xs] := by
  unfold allM
  rw [snp_obj h (allM_below hb)]
  rfl
theorem snapOO {j n : Nat} {r : Nat → Nat} {row : Nat → List D} (h : st[j]? = some (.lst (mapR n fun a => .obj (r a)))) (hr : ∀ a, a < n → st[r a]? = some (.lst (row a))) (hb : ∀ a, a < n → belowDs 0 (row a) = true) : allM (snp st 3) [.obj j] = some [.lst (mapR n fun a => .lst (row a))] := by
  unfold allM
  rw [snp_obj h (allM_mapR (g := fun a => D.lst (row a)) fun a ha => snp_obj (hr a ha) (allM_below (hb a ha)))]
  rfl
theorem snapT {xs : List D} (hb : belowDs 0 xs = true) : allM (snp st 3) [.tup xs] = some [.tup xs] := by
  unfold allM
  rw [snp_below (show belowD 0 (.tup xs) = true from hb)]
  rfl
theorem noLs_mapR {n : Nat} {f : Nat → D} (h : ∀ i, i < n → noL (f i) = true) : noLs (mapR n f) = true := by
  unfold mapR
  have key : ∀ l : List Nat, (∀ i ∈ l, noL (f i) = true) → noLs (l.map f) = true := fun l => by
    induction l with
    | nil => intro _; rfl
    | cons x xs ih => intro hl; show (noL (f x) && noLs (xs.map f)) = true; rw [hl x (List.mem_cons_self), ih fun i hi => hl i (List.mem_cons_of_mem _ hi)]; rfl
  exact key _ fun i hi => h i (List.mem_range.mp hi)
theorem w_binI {C : Addr} {g : List D → M D} {fs : List (Str × D)} {i : Int} {P : D → Sto → Prop} : W (binOI C g (.ins C fs) (.int i)) st P = W (g [.ins C fs, .int i]) st P := by
  show W (ownM C g (.ins C fs) [.int i]) st P = _
  rw [w_own]
/-! ### a list or a tuple -/
def sqD (b : Bool) (xs : List D) : D := if b = true then .lst xs else .tup xs
theorem sqD_t {xs : List D} : sqD true xs = .lst xs := rfl
theorem sqD_f {xs : List D} : sqD false xs = .tup xs := rfl
theorem w_seqG {b : Bool} {xs : List D} {P : List D → Sto → Prop} : W (seqD (sqD b xs)) st P = P xs st := by cases b <;> exact W.eq rfl
theorem w_lenG {b : Bool} {xs : List D} {P : D → Sto → Prop} : W (lenD [sqD b xs]) st P = P (.int (xs.length : Nat)) st := by cases b <;> exact W.eq rfl
theorem w_enAG {b : Bool} {xs : List D} {P : List D → Sto → Prop} : W (enA [sqD b xs]) st P = P (enumD xs) st := by cases b <;> exact W.eq rfl
theorem w_tupleG {b : Bool} {xs : List D} {P : D → Sto → Prop} : W (tupleD [sqD b xs]) st P = P (.tup xs) st := by cases b <;> exact W.eq rfl
theorem ixGE {b : Bool} {xs : List D} {i : Int} {P : D → Sto → Prop} : W (ixD (sqD b xs) (.int i)) st P = itm (atI xs i) P st := by
  cases b
  · exact ixTE
  · exact ixLE
theorem belowD_G {k : Nat} {b : Bool} {xs : List D} : belowD k (sqD b xs) = belowDs k xs := by cases b <;> rfl
theorem isi_lt_G {b : Bool} {xs : List D} {cs : List Addr} {P : D → Sto → Prop} : W (isiD (anB2 "list" "tuple" cs) (sqD b xs)) st P = P (.bl true) st := by
  cases b
  · exact isi_lt_tup
  · exact isi_lt_lst
theorem w_slT {xs : List D} {lo hi : Option Int} {P : D → Sto → Prop} : W (ixD (.tup xs) (.int 0)) st P = itm (atI xs 0) P st := ixTE
/-- two tables by rows -/
theorem allM_tab {k n : Nat} {t : Nat → Nat → Int} : allM (datD st (k + 1)) (mapR n fun a => .lst (mapR n fun b => .int (t a b))) = some (mapR n fun a => .list (mapR n fun b => .int (t a b))) := allM_mapR fun a _ => datD_lst allM_ints
theorem allM_grid {k n : Nat} {t : Nat → Nat → Int} : allM (datD st (k + 1)) (mapR n fun a => .tup (mapR n fun b => .int (t a b))) = some (mapR n fun a => .tuple (mapR n fun b => .int (t a b))) := allM_mapR fun a _ => datD_tup allM_ints
theorem mapR_inj {α : Type} {n : Nat} {f g : Nat → α} : mapR n f = mapR n g ↔ ∀ i, i < n → f i = g i := by
  refine ⟨fun h i hi => ?_, fun h => mapR_ext h⟩
  have q := congrArg (fun l => l[i]?) h
  simp only [mapR_get hi, Option.some.injEq] at q
  exact q
theorem all_decide {n : Nat} {p : Nat → Prop} [∀ i, Decidable (p i)] [Decidable (∀ i, i < n → p i)] : (mapR n fun i => decide (p i)).all id = decide (∀ i, i < n → p i) := by
  by_cases h : ∀ i, i < n → p i
  · rw [decide_eq_true h]
    exact all_mapR fun i hi => decide_eq_true (h i hi)
  · rw [decide_eq_false h, ← Bool.not_eq_true]
    intro z
    refine h fun i hi => ?_
    unfold mapR at z
    rw [List.all_map, List.all_eq_true] at z
    exact of_decide_eq_true (z i (List.mem_range.mpr hi))
theorem eqv_tab {n : Nat} {t u : Nat → Nat → Int} : PyData.eqvAll (mapR n fun a => .list (mapR n fun b => .int (t a b))) (mapR n fun a => .list (mapR n fun b => .int (u a b))) = decide (∀ a, a < n → mapR n (t a) = mapR n (u a)) := by
  rw [eqv_all]
  have e : (fun i => PyData.eqv (.list (mapR n fun b => .int (t i b))) (.list (mapR n fun b => .int (u i b)))) = fun i => decide (mapR n (t i) = mapR n (u i)) := by
    funext i
    rw [eqv_list, eqv_ints]
  rw [e, all_decide]
theorem eqv_grid {n : Nat} {t u : Nat → Nat → Int} : PyData.eqvAll (mapR n fun a => .tuple (mapR n fun b => .int (t a b))) (mapR n fun a => .tuple (mapR n fun b => .int (u a b))) = decide (∀ a, a < n → mapR n (t a) = mapR n (u a)) := by
  rw [eqv_all]
  have e : (fun i => PyData.eqv (.tuple (mapR n fun b => .int (t i b))) (.tuple (mapR n fun b => .int (u i b)))) = fun i => decide (mapR n (t i) = mapR n (u i)) := by
    funext i
    rw [eqv_tuple, eqv_ints]
  rw [e, all_decide]
theorem w_neTab {n : Nat} {t u : Nat → Nat → Int} {P : D → Sto → Prop} : W (neD (.lst (mapR n fun a => .lst (mapR n fun b => .int (t a b)))) (.lst (mapR n fun a => .lst (mapR n fun b => .int (u a b))))) st P = P (.bl (!decide (∀ a, a < n → mapR n (t a) = mapR n (u a)))) st := by
  refine (W.eq ?_)
  unfold neD
  rw [datD_lst allM_tab, datD_lst allM_tab]
  dsimp only
  rw [eqv_list, eqv_tab]
theorem w_eqGrid {n : Nat} {t u : Nat → Nat → Int} {P : D → Sto → Prop} : W (eqD (.tup (mapR n fun a => .tup (mapR n fun b => .int (t a b)))) (.tup (mapR n fun a => .tup (mapR n fun b => .int (u a b))))) st P = P (.bl (decide (∀ a, a < n → mapR n (t a) = mapR n (u a)))) st := by
  refine (W.eq ?_)
  unfold eqD
  rw [datD_tup allM_grid, datD_tup allM_grid]
  dsimp only
  rw [eqv_tuple, eqv_grid]
/-- a loop over what stands in a list or a tuple; the names stay -/
theorem forRi {g : TgF} {body : SF} {P : Fl → Sto → Prop} {n : Nat} {x : Nat → D} (I : Nat → Prop)
    (step : ∀ i, i < n → I i → W (g (x i) δ) st fun δ1 s1 => W (body δ1) s1 fun fl s2 => match fl with | .nx δ' => δ' = δ ∧ s2 = st ∧ I (i + 1) | .ct δ' => δ' = δ ∧ s2 = st ∧ I (i + 1) | .bk _ => False | .rt d => P (.rt d) s2)
    (done : I n → P (.nx δ) st) (h0 : I 0) : W (forM g body (mapR n x) δ) st P := by
  refine forV (fun i δ' s => (δ' = δ ∧ s = st) ∧ I i) (fun i δ' s hi q => ?_) (fun δ' s q => ?_) ⟨⟨rfl, rfl⟩, h0⟩
  · obtain ⟨⟨rfl, rfl⟩, q⟩ := q
    refine (step i hi q).mono fun δ1 s1 h => h.mono fun fl s2 h => ?_
    cases fl with
    | nx δ' => exact ⟨⟨h.1, h.2.1⟩, h.2.2⟩
    | ct δ' => exact ⟨⟨h.1, h.2.1⟩, h.2.2⟩
    | bk δ' => exact h
    | rt d => exact h
  · obtain ⟨⟨rfl, rfl⟩, q⟩ := q
    exact done q
theorem w_slAL {xs : List D} {lo hi : Option Int} {P : D → Sto → Prop} : W (slA (.lst xs) lo hi) st P = P (.lst (cutD xs lo hi)) st := W.eq rfl
theorem w_slAF {xs : List D} {lo hi : Option Int} {P : D → Sto → Prop} : W (slA (.fl xs) lo hi) st P = P (.lst (cutD xs lo hi)) st := W.eq rfl
theorem cut_tail {α : Type} {x : α} {xs : List α} {m : α → D} : cutD ((x :: xs).map m) (some 1) none = xs.map m := by
  have h1 : HT.sIx (m x :: xs.map m).length 0 (some 1) = 1 := by
    have := HT.sIx_nat (m x :: xs.map m).length 0 1
    rw [show (some (1 : Int)) = some ((1 : Nat) : Int) from rfl, this, List.length_cons]
    omega
  unfold cutD
  rw [List.map_cons, h1]
  show (xs.map m).take ((m x :: xs.map m).length - 1) = _
  rw [List.length_cons, Nat.add_sub_cancel, List.take_length]
theorem w_slAT {α : Type} {x : α} {xs : List α} {m : α → D} {P : D → Sto → Prop} : W (slA (.tup ((x :: xs).map m)) (some 1) none) st P = P (.tup (xs.map m)) st := by
  refine (W.eq (a := .tup (cutD ((x :: xs).map m) (some 1) none)) (st' := st) ?_).trans (by rw [cut_tail])
  have h1 : HT.sIx ((x :: xs).map m).length 0 (some 1) = 1 := by
    have := HT.sIx_nat ((x :: xs).map m).length 0 1
    rw [show (some (1 : Int)) = some ((1 : Nat) : Int) from rfl, this, List.length_map, List.length_cons]
    omega
  unfold slA
  dsimp only
  rw [if_neg (fun z => by rw [h1] at z; omega)]
theorem w_slG {α : Type} {b : Bool} {x : α} {xs : List α} {m : α → D} {P : D → Sto → Prop} : W (slA (sqD b ((x :: xs).map m)) (some 1) none) st P = P (sqD b (xs.map m)) st := by
  cases b
  · exact w_slAT
  · exact w_slAL.trans (by rw [cut_tail]; rfl)
/-- a comprehension each of whose items is a new list of the store -/
theorem lcG {g : TgF} {el : EF} {n : Nat} {x : Nat → D} {c : Nat → Cell} {P : List D → Sto → Prop} (step : ∀ i s, i < n → W (g (x i) δ) s fun δ1 s1 => W (el δ1) s1 fun y s2 => y = .obj s.length ∧ s2 = s ++ [c i]) : W (lcM g eYes el δ (mapR n x)) st P = P (mapR n fun a => .obj (st.length + a)) (st ++ mapR n c) := by
  refine w_of (w_lcM (fun r s => r = mapR r.length (fun a => .obj (st.length + a)) ∧ s = st ++ mapR r.length c) (fun y r s hx I => ?_) (fun r s hr I => ?_) ⟨rfl, (List.append_nil _).symm⟩)
  · have hi : r.length < n := by
      rcases Nat.lt_or_ge r.length n with q | q
      · exact q
      · rw [List.getElem?_eq_none (by rw [mapR_len]; exact q)] at hx; cases hx
    rw [mapR_get hi] at hx
    cases hx
    obtain ⟨e1, e2⟩ := I
    refine (step _ s hi).mono fun δ1 st1 q => q.mono fun y st2 q => ?_
    obtain ⟨q1, q2⟩ := q
    have hl : s.length = st.length + r.length := by rw [e2, List.length_append, mapR_len]
    refine ⟨?_, ?_⟩
    · rw [List.length_append, List.length_singleton, mapR_succ, ← e1, q1, hl]
    · rw [q2, e2, List.length_append, List.length_singleton, mapR_succ, List.append_assoc]
  · obtain ⟨e1, e2⟩ := I
    rw [mapR_len] at hr
    rw [e2, e1, mapR_len, hr]
    exact ⟨rfl, rfl⟩
/-- a loop over few values whose own name is used elsewhere, too -/
theorem forKj {g : TgF} {body : SF} {P : Fl → Sto → Prop} {xs : List D} (j : Nat) (o0 : Option D) (h0 : δ[j]? = some o0) (hb0 : ∀ k, belowO k o0 = true)
    (step : ∀ x o, x ∈ xs → (∀ k, belowO k o = true) → W (g x (δ.set j o)) st fun δ1 s1 => W (body δ1) s1 fun fl s2 => match fl with | .nx δ' => (∃ o, δ' = δ.set j o ∧ ∀ k, belowO k o = true) ∧ s2 = st | .ct δ' => (∃ o, δ' = δ.set j o ∧ ∀ k, belowO k o = true) ∧ s2 = st | .bk _ => False | .rt d => P (.rt d) s2)
    (done : ∀ o, (∀ k, belowO k o = true) → P (.nx (δ.set j o)) st) : W (forM g body xs δ) st P := by
  have e : δ = δ.set j o0 := by
    have hj := (List.getElem?_eq_some_iff.mp h0).1
    rw [← (List.getElem?_eq_some_iff.mp h0).2, List.set_getElem_self]
  refine w_forM (fun _ δ' s => (∃ o, δ' = δ.set j o ∧ ∀ k, belowO k o = true) ∧ s = st) (fun i x δ' s hx I => ?_) (fun δ' s I => ?_) ⟨⟨o0, e, hb0⟩, rfl⟩
  · obtain ⟨⟨o, rfl, ho⟩, rfl⟩ := I
    exact step x o (List.mem_of_getElem? hx) ho
  · obtain ⟨⟨o, rfl, ho⟩, rfl⟩ := I
    exact done o ho
theorem mapR_cons {α : Type} {n : Nat} {f : Nat → α} : mapR (n + 1) f = f 0 :: mapR n fun i => f (i + 1) := by
  unfold mapR
  rw [List.range_succ_eq_map, List.map_cons, List.map_map]
  rfl
theorem w_eClr {fo : EF} {P : D → Sto → Prop} : W (eClr fo δ) st P = W (fo δ) st fun o st1 => W (clrD o) st1 P := by unfold eClr; rw [w_bind]
theorem clrE {j : Nat} {xs : List D} {P : D → Sto → Prop} (h : st[j]? = some (.lst xs)) : W (clrD (.obj j)) st P = P .non (st.set j (.lst [])) := W.eq (by unfold clrD; simp only [h])
theorem set_1 {a : Cell} {n : Nat} {x : Nat → D} {d : D} {P : Unit → Sto → Prop} (h : 1 ≤ n) : W (setD (.obj 1) (.int 0) d) [a, .lst (mapR n x)] P = P () [a, .lst ((mapR n x).set 0 d)] := by
  have e : ixN n 0 = some 0 := by unfold ixN; rw [if_pos (by decide), if_pos (by omega)]; rfl
  rw [setOE (xs := mapR n x) rfl, mapR_len, e]
  rfl
theorem w_eLenSet {fa : EF} {P : D → Sto → Prop} : W (eLenSet fa δ) st P = W (fa δ) st fun d st1 => W (lenSetD d) st1 P := by unfold eLenSet; rw [w_bind]
theorem w_lenSet {ns : List Int} (h : ns.length < 64) {P : D → Sto → Prop} : W (lenSetD (.lst (ns.map D.int))) st P = P (.int (metL ns).length) st := W.eq (by unfold lenSetD asL; simp only [asInts_map]; rw [if_pos h])
theorem w_maxL {ns : List Int} (h : 0 < ns.length) {P : D → Sto → Prop} : W (maxLD [.lst (ns.map D.int)]) st P = P (.int (mxI ns)) st := W.eq (by unfold maxLD asL; simp only [asInts_map]; rw [if_pos h])
theorem w_eListR1N {f : EF} {P : D → Sto → Prop} : W (eListR1N f δ) st P = W (f δ) st fun d st1 => W (rngLN d) st1 P := by unfold eListR1N; rw [w_bind]
theorem w_rngLN {n : Nat} {P : D → Sto → Prop} (hn : n ≤ 1000) : W (rngLN (.int (n : Nat))) st P = P (.obj st.length) (st ++ [.lst (mapR n fun i => .int (i : Nat))]) := by
  refine W.eq ?_
  unfold rngLN
  dsimp only
  rw [if_pos ⟨by omega, by omega⟩]
  have e : rngD 0 ((n : Int)).toNat = mapR n fun i => D.int (i : Nat) := by
    unfold rngD mapR
    rw [Int.toNat_natCast]
    exact List.map_congr_left fun i _ => by rw [Int.zero_add]
  rw [e]
/-! ### while -/
theorem whileM_more {c : En → M Bool} {body : SF} : ∀ {n : Nat} {δ : En} {st : Sto} {r : R Fl}, whileM c body n δ st = some r → whileM c body (n + 1) δ st = some r
  | 0, δ, st, r, h => nomatch h
  | n + 1, δ, st, r, h => by
    unfold whileM at h ⊢
    unfold M.bind at h ⊢
    cases e : c δ st with
    | none => rw [e] at h; cases h
    | some q =>
      rw [e] at h
      cases q with
      | er C fs s => exact h
      | ok b s =>
        dsimp only at h ⊢
        cases b with
        | false => exact h
        | true =>
          rw [if_pos rfl] at h ⊢
          cases e2 : body δ s with
          | none => rw [e2] at h; cases h
          | some q =>
            rw [e2] at h
            cases q with
            | er C fs s => exact h
            | ok fl s =>
              dsimp only at h ⊢
              cases fl with
              | nx δ' => exact whileM_more h
              | ct δ' => exact whileM_more h
              | bk δ' => exact h
              | rt d => exact h
theorem whileM_le {c : En → M Bool} {body : SF} {n m : Nat} {δ : En} {st : Sto} {r : R Fl} (h : whileM c body n δ st = some r) (hm : n ≤ m) : whileM c body m δ st = some r := by
  induction hm with
  | refl => exact h
  | step _ ih => exact whileM_more ih
theorem w_whileM {c : En → M Bool} {body : SF} {P : Fl → Sto → Prop} (V : Nat → En → Sto → Prop)
    (step : ∀ k δ s, V k δ s → W (c δ) s fun b s1 => (b = true → ∃ k', k = k' + 1 ∧ W (body δ) s1 fun fl s2 => match fl with | .nx δ' => V k' δ' s2 | .ct δ' => V k' δ' s2 | .bk δ' => P (.nx δ') s2 | .rt d => P (.rt d) s2) ∧ (b = false → P (.nx δ) s1)) :
    ∀ (k : Nat) (δ : En) (st : Sto), V k δ st → W (whileM c body (k + 1) δ) st P := fun k => by
  induction k with
  | zero =>
    intro δ st hV
    unfold whileM
    rw [w_bind]
    refine (step 0 δ st hV).mono fun b s1 q => ?_
    cases b with
    | false =>
      rw [if_neg (by decide), w_pure]
      exact q.2 rfl
    | true =>
      obtain ⟨k', e, _⟩ := q.1 rfl
      cases e
  | succ k ih =>
    intro δ st hV
    unfold whileM
    rw [w_bind]
    refine (step _ δ st hV).mono fun b s1 q => ?_
    cases b with
    | false =>
      rw [if_neg (by decide), w_pure]
      exact q.2 rfl
    | true =>
      obtain ⟨k', e, q⟩ := q.1 rfl
      obtain rfl : k = k' := by omega
      rw [if_pos rfl, w_bind]
      refine q.mono fun fl s2 q => ?_
      cases fl with
      | nx δ' => exact ih _ _ q
      | ct δ' => exact ih _ _ q
      | bk δ' =>
        show W (M.pure (Fl.nx δ')) s2 P
        rw [w_pure]
        exact q
      | rt d =>
        show W (M.pure (Fl.rt d)) s2 P
        rw [w_pure]
        exact q
theorem w_while {c : En → M Bool} {body : SF} {P : Fl → Sto → Prop} (V : Nat → En → Sto → Prop) (k : Nat)
    (step : ∀ k δ s, V k δ s → W (c δ) s fun b s1 => (b = true → ∃ k', k = k' + 1 ∧ W (body δ) s1 fun fl s2 => match fl with | .nx δ' => V k' δ' s2 | .ct δ' => V k' δ' s2 | .bk δ' => P (.nx δ') s2 | .rt d => P (.rt d) s2) ∧ (b = false → P (.nx δ) s1))
    (h0 : V k δ st) : W (sWhile c body δ) st P := by
  have h := w_whileM V step k δ st h0
  unfold sWhile
  unfold W at h ⊢
  cases e : whileM c body (k + 1) δ st with
  | none => rw [e] at h; exact h.elim
  | some r =>
    have hx : ∃ n, (whileM c body n δ st).isSome = true := ⟨_, by rw [e]; rfl⟩
    have e2 : whileM c body hx.choose δ st = some r := by
      obtain ⟨r2, q⟩ := Option.isSome_iff_exists.mp hx.choose_spec
      rcases Nat.le_total hx.choose (k + 1) with l | l
      · rw [whileM_le q l] at e
        rw [← e]
        exact q
      · exact whileM_le e l
    dsimp only
    rw [dif_pos hx, e2]
    rw [e] at h
    exact h
theorem w_lcZ {it : ItF} {g : TgF} {vs : List Nat} {tt : En → M Bool} {el : EF} {r : List D} {P : D → Sto → Prop} (h : W (eLc it g vs tt el (snpE st δ)) [] fun d _ => d = .lst r) (hn : noLs r = true) (hb : belowDs 0 r = true) : W (eLcZ it g vs tt el δ) st P = P (.lst r) st := by
  refine W.eq ?_
  obtain ⟨s, hs⟩ := w_true h
  unfold eLc M.bind at hs
  dsimp only at hs
  unfold eLcZ
  cases e : eLcM it g vs tt el (snpE st δ) [] with
  | none => rw [e] at hs; cases hs
  | some q =>
    rw [e] at hs
    cases q with
    | er C fs s => cases hs
    | ok r' s' =>
      dsimp only at hs ⊢
      cases hs
      rw [if_pos ⟨hn, hb⟩]
theorem w_ret0 {P : Fl → Sto → Prop} : W (sRet0 δ) st P = P (.rt .non) st := W.eq rfl
theorem noLs_int {l : List Nat} : noLs (l.map fun i => D.int (i : Nat)) = true := by
  induction l with
  | nil => rfl
  | cons x xs ih => exact ih
/-! ### pop, extend, index, count -/
theorem w_ePop {fo : EF} {P : D → Sto → Prop} : W (ePop fo δ) st P = W (fo δ) st fun o st1 => W (popD o) st1 P := by unfold ePop; rw [w_bind]
theorem popE {j : Nat} {xs : List D} {y : D} {P : D → Sto → Prop} (h : st[j]? = some (.lst xs)) (hy : xs[xs.length - 1]? = some y) : W (popD (.obj j)) st P = P y (st.set j (.lst xs.dropLast)) := W.eq (by unfold popD; simp only [h, hy])
theorem w_eExt {fo fe : EF} {P : D → Sto → Prop} : W (eExt fo fe δ) st P = W (fo δ) st fun o st1 => W (isLO o) st1 fun _ st2 => W (fe δ) st2 fun d st3 => W (extD o d) st3 P := by
  unfold eExt
  rw [w_bind]; congr; funext o st1
  rw [w_bind]; congr; funext _ st2
  rw [w_bind]
theorem extE {j : Nat} {xs zs : List D} {P : D → Sto → Prop} (h : st[j]? = some (.lst xs)) (hl : xs.length + zs.length ≤ sizeLine) : W (extD (.obj j) (.lst zs)) st P = P .non (st.set j (.lst (xs ++ zs))) := W.eq (by unfold extD; simp only [h]; rw [if_pos hl])
theorem w_eOpL {r : D → D → M D} {fo fe : EF} {P : D → Sto → Prop} : W (eOpL r fo fe δ) st P = W (fo δ) st fun o st1 => W (isAL o) st1 fun _ st2 => W (fe δ) st2 fun d st3 => W (r o d) st3 P := by
  unfold eOpL
  rw [w_bind]; congr; funext o st1
  rw [w_bind]; congr; funext _ st2
  rw [w_bind]
theorem w_isAL {xs : List D} {P : Unit → Sto → Prop} : W (isAL (.lst xs)) st P = P () st := W.eq rfl
theorem w_cntL {ns : List Int} {k : Int} {P : D → Sto → Prop} : W (cntD (.lst (ns.map D.int)) (.int k)) st P = P (.int (ns.count k : Nat)) st := W.eq (by unfold cntD asL; simp only [asInts_map])
theorem w_idxL {ns : List Int} {k : Int} {P : D → Sto → Prop} (h : k ∈ ns) : W (idxD (.lst (ns.map D.int)) (.int k)) st P = P (.int (ns.idxOf k : Nat)) st := W.eq (by unfold idxD asL; simp only [asInts_map]; rw [if_pos h])
theorem w_sortL {ns : List Int} {P : D → Sto → Prop} : W (sortD [.lst (ns.map D.int)]) st P = P (.lst ((srtI ns).map D.int)) st := W.eq (by unfold sortD asL; simp only [asInts_map])
theorem w_augN {g : Int → Int → Int} {i : Nat} {fe : EF} {x : D} {P : Fl → Sto → Prop} (h : δ[i]? = some (some x)) : W (sAugN g i fe δ) st P = W (fe δ) st fun y st1 => W (augI g x y) st1 fun z st2 => P (.nx (δ.set i (some z))) st2 := by
  have e : sAugN g i fe δ st = ((fe δ).bind fun y => (augI g x y).bind fun z => M.pure (.nx (δ.set i (some z)))) st := by
    unfold sAugN
    rw [h]
  have e2 : W (sAugN g i fe δ) st P = W ((fe δ).bind fun y => (augI g x y).bind fun z => M.pure (.nx (δ.set i (some z)))) st P := by
    unfold W
    rw [e]
  rw [e2]
  simp only [w_bind, w_pure]
theorem w_augI {g : Int → Int → Int} {a b : Int} {P : D → Sto → Prop} : W (augI g (.int a) (.int b)) st P = P (.int (g a b)) st := W.eq rfl
theorem w_tupleO {j : Nat} {xs : List D} {P : D → Sto → Prop} (h : st[j]? = some (.lst xs)) : W (tupleD [.obj j]) st P = P (.tup xs) st := W.eq (by unfold tupleD asL; simp only [h])
theorem w_eSrtSet {fa : EF} {P : D → Sto → Prop} : W (eSrtSet fa δ) st P = W (fa δ) st fun d st1 => W (sortSetD d) st1 P := by unfold eSrtSet; rw [w_bind]
theorem w_sortSet {ns : List Int} (h : ns.length < 64) {P : D → Sto → Prop} : W (sortSetD (.lst (ns.map D.int))) st P = P (.lst ((sdI ns).map D.int)) st := W.eq (by unfold sortSetD asL; simp only [asInts_map]; rw [if_pos h])
/-- a loop that looks for the first that is not right -/
theorem forFind {g : TgF} {body : SF} {n : Nat} {x : Nat → D} {P : Fl → Sto → Prop} (ok : Nat → Prop) (res : Nat → D → Prop)
    (step : ∀ i, i < n → W (g (x i) δ) st fun δ1 s1 => W (body δ1) s1 fun fl s2 => s2 = st ∧ ((ok i ∧ fl = .nx δ) ∨ (¬ ok i ∧ ∃ d, fl = .rt d ∧ res i d)))
    (h1 : (∀ i, i < n → ok i) → P (.nx δ) st) (h2 : ∀ i d, i < n → (∀ j, j < i → ok j) → ¬ ok i → res i d → P (.rt d) st) : W (forM g body (mapR n x) δ) st P := by
  refine forV (fun i δ' s => δ' = δ ∧ s = st ∧ ∀ j, j < i → ok j) (fun i δ' s hi V => ?_) (fun δ' s V => ?_) ⟨rfl, rfl, fun j hj => absurd hj (Nat.not_lt_zero _)⟩
  · obtain ⟨rfl, rfl, hj⟩ := V
    refine (step i hi).mono fun δ1 s1 q => q.mono fun fl s2 q => ?_
    obtain ⟨rfl, ⟨k, rfl⟩ | ⟨k, d, rfl, r⟩⟩ := q
    · refine ⟨rfl, rfl, fun j h => ?_⟩
      by_cases e : j = i
      · rw [e]; exact k
      · exact hj j (by omega)
    · exact h2 i d hi hj k r
  · obtain ⟨rfl, rfl, hj⟩ := V
    exact h1 hj
end
end DL
end
section
namespace Law
open PySem PySem.Spec PyProof.Rows L2 DL
def top (i : Nat) : Stmt := PySem.Challenge.pw_beanjars_k04_jars.main.body.getD i (.Pass ⟨0, 0, 0, 0⟩)
structure As where
  C_Jar : Addr
/-! ### _law_pool -/
abbrev s_ulaw_pool : Stmt := top 19
theorem sc_ulaw_pool : FnScope ["_law_script", "_law_k", "_law_cell", "_law_seed"] ["_law_script", "_law_k"] (defScope s_ulaw_pool) := ⟨rfl, rfl, rfl, by decide +kernel, rfl, by decide +kernel, by decide +kernel⟩
noncomputable def b_ulaw_pool (A : As) : SF :=
  (sSeq (sAsg (eC (.int 0)) (gN 2)) (sSeq (sIf (eB (eOp2 ltD (eVar 1) (eCall lenD (eCons (eVar 0) eNil)))) (sAsg (eOp2 ixD (eVar 0) (eVar 1)) (gN 2)) sNext) (sSeq (sAsg (eOp2 modD (eOp2 powD (eOp2 addD (eOp2 addD (eOp2 modD (eVar 2) (eC (.int 2147483629))) (eOp2 mulD (eOp2 mulD (eC (.int 7919)) (eVar 1)) (eVar 1))) (eC (.int 31))) (eC (.int 3))) (eC (.int 2147483647))) (gN 3)) (sSeq (sIf (eB (eOp2 ltD (eVar 2) (eOp2 powD (eC (.int 10)) (eC (.int 18))))) (sAsg (eC (.int 0)) (gN 2)) sNext) (sRet (eLst (eCons (eVar 2) (eCons (eVar 3) eNil))))))))
noncomputable def g_ulaw_pool (A : As) : List D → M D := callM 2 4 (b_ulaw_pool A)

noncomputable def b_ulaw_poolN1 (A : As) : SF :=
  (sSeq (sAsg (eC (.int 0)) (gN 2)) (sSeq (sIf (eB (eOp2 ltD (eVar 1) (eCall lenD (eCons (eVar 0) eNil)))) (sAsg (eOp2 ixD (eVar 0) (eVar 1)) (gN 2)) sNext) (sSeq (sAsg (eOp2 modD (eOp2 powD (eOp2 addD (eOp2 addD (eOp2 modD (eVar 2) (eC (.int 2147483629))) (eOp2 mulD (eOp2 mulD (eC (.int 7919)) (eVar 1)) (eVar 1))) (eC (.int 31))) (eC (.int 3))) (eC (.int 2147483647))) (gN 3)) (sSeq (sIf (eB (eOp2 ltD (eVar 2) (eOp2 powD (eC (.int 10)) (eC (.int 18))))) (sAsg (eC (.int 0)) (gN 2)) sNext) (sRet (eNewL (eCons (eVar 2) (eCons (eVar 3) eNil))))))))
noncomputable def g_ulaw_poolN1 (A : As) : List D → M D := callN 2 4 (b_ulaw_poolN1 A)

/-! ### is_sequence -/
abbrev s_is_sequence : Stmt := top 11
theorem sc_is_sequence : FnScope ["value"] ["value"] (defScope s_is_sequence) := ⟨rfl, rfl, rfl, by decide +kernel, rfl, by decide +kernel, by decide +kernel⟩
noncomputable def b_is_sequence (A : As) : SF :=
  (sRet (eIsi (anB2 "list" "tuple" [A.C_Jar]) (eVar 0)))
noncomputable def g_is_sequence (A : As) : List D → M D := callM 1 1 (b_is_sequence A)

/-! ### is_integer -/
abbrev s_is_integer : Stmt := top 9
theorem sc_is_integer : FnScope ["value"] ["value"] (defScope s_is_integer) := ⟨rfl, rfl, rfl, by decide +kernel, rfl, by decide +kernel, by decide +kernel⟩
noncomputable def b_is_integer (A : As) : SF :=
  (sRet (eAnd (eIsi (anB "int" [A.C_Jar]) (eVar 0)) (eNot (eIsi (anB "bool" [A.C_Jar]) (eVar 0)))))
noncomputable def g_is_integer (A : As) : List D → M D := callM 1 1 (b_is_integer A)

/-! ### is_count -/
abbrev s_is_count : Stmt := top 15
theorem sc_is_count : FnScope ["value"] ["value"] (defScope s_is_count) := ⟨rfl, rfl, rfl, by decide +kernel, rfl, by decide +kernel, by decide +kernel⟩
noncomputable def b_is_count (A : As) : SF :=
  (sRet (eAnd (eCall (g_is_integer A) (eCons (eVar 0) eNil)) (eOp2 geD (eVar 0) (eC (.int 0)))))
noncomputable def g_is_count (A : As) : List D → M D := callM 1 1 (b_is_count A)

/-! ### Jar.__init__ -/
abbrev s_Jar_uuinituu : Stmt := inClass (top 17) 0
theorem sc_Jar_uuinituu : FnScope ["self", "counts", "count"] ["self", "counts"] (defScope s_Jar_uuinituu) := ⟨rfl, rfl, rfl, by decide +kernel, rfl, by decide +kernel, by decide +kernel⟩
noncomputable def b_Jar_uuinituu (A : As) : SF :=
  (sSeq (sIf (tOrD (tNotD (eTru (eCall (g_is_sequence A) (eCons (eVar 1) eNil)))) (tNotD (eB (eCh leD leD (eC (.int 1)) (eCall lenD (eCons (eVar 1) eNil)) (eC (.int 8)))))) sNo sNext) (sSeq (sIf (tNotD (eTru (eCall allD (eCons (eLc (iSq (eVar 1)) (gN 2) [2] eYes (eCall (g_is_count A) (eCons (eVar 2) eNil))) eNil)))) sNo sNext) (sFldD A.C_Jar "amounts" (eVar 0) (eCall tupleD (eCons (eVar 1) eNil)))))
noncomputable def g_Jar_uuinituu (A : As) : List D → M D := callM 2 3 (b_Jar_uuinituu A)

/-! ### Jar.__eq__ -/
abbrev s_Jar_uuequu : Stmt := inClass (top 17) 10
theorem sc_Jar_uuequu : FnScope ["self", "other"] ["self", "other"] (defScope s_Jar_uuequu) := ⟨rfl, rfl, rfl, by decide +kernel, rfl, by decide +kernel, by decide +kernel⟩
noncomputable def b_Jar_uuequu (A : As) : SF :=
  (sRet (eAnd (eIsi (anO A.C_Jar []) (eVar 1)) (eOp2 eqD (eFld A.C_Jar "amounts" (eVar 0)) (eFld A.C_Jar "amounts" (eVar 1)))))
noncomputable def g_Jar_uuequu (A : As) : List D → M D := callM 2 2 (b_Jar_uuequu A)

/-! ### _law_beans -/
abbrev s_ulaw_beans : Stmt := top 24
theorem sc_ulaw_beans : FnScope ["_law_counts_here", "_law_beans_here", "_law_colour"] ["_law_counts_here"] (defScope s_ulaw_beans) := ⟨rfl, rfl, rfl, by decide +kernel, rfl, by decide +kernel, by decide +kernel⟩
noncomputable def b_ulaw_beans (A : As) : SF :=
  (sSeq (sAsg (eLst eNil) (gN 1)) (sSeq (sFor (iR1 (eCons (eCall lenD (eCons (eVar 0) eNil)) eNil)) (gN 2) (sScope [2] (sAsg (eOp2 addD (eOp2 mulD (eLst (eCons (eVar 2) eNil)) (eOp2 modD (eOp2 ixD (eVar 0) (eVar 2)) (eC (.int 4)))) (eVar 1)) (gN 1)))) (sRet (eVar 1))))
noncomputable def g_ulaw_beans (A : As) : List D → M D := callM 1 3 (b_ulaw_beans A)

/-! ### need_number -/
abbrev s_need_number : Stmt := top 13
theorem sc_need_number : FnScope ["value", "least", "greatest"] ["value", "least", "greatest"] (defScope s_need_number) := ⟨rfl, rfl, rfl, by decide +kernel, rfl, by decide +kernel, by decide +kernel⟩
noncomputable def b_need_number (A : As) : SF :=
  (sIf (tOrD (tNotD (eTru (eCall (g_is_integer A) (eCons (eVar 0) eNil)))) (tOrD (eB (eOp2 ltD (eVar 0) (eVar 1))) (tAndD (eB (eOp2 nisD (eVar 2) (eC .non))) (eB (eOp2 gtD (eVar 0) (eVar 2)))))) sNo sNext)
noncomputable def g_need_number (A : As) : List D → M D := callM 3 3 (b_need_number A)

/-! ### is_colour -/
abbrev s_is_colour : Stmt := top 10
theorem sc_is_colour : FnScope ["value", "size"] ["value", "size"] (defScope s_is_colour) := ⟨rfl, rfl, rfl, by decide +kernel, rfl, by decide +kernel, by decide +kernel⟩
noncomputable def b_is_colour (A : As) : SF :=
  (sRet (eAnd (eCall (g_is_integer A) (eCons (eVar 0) eNil)) (eCh leD ltD (eC (.int 0)) (eVar 0) (eVar 1))))
noncomputable def g_is_colour (A : As) : List D → M D := callM 2 2 (b_is_colour A)

/-! ### need_colours -/
abbrev s_need_colours : Stmt := top 12
theorem sc_need_colours : FnScope ["values", "size", "value"] ["values", "size"] (defScope s_need_colours) := ⟨rfl, rfl, rfl, by decide +kernel, rfl, by decide +kernel, by decide +kernel⟩
noncomputable def b_need_colours (A : As) : SF :=
  (sFor (iSq (eVar 0)) (gN 2) (sScope [2] (sIf (tNotD (eTru (eCall (g_is_colour A) (eCons (eVar 2) (eCons (eVar 1) eNil))))) sNo sNext)))
noncomputable def g_need_colours (A : As) : List D → M D := callM 2 3 (b_need_colours A)

/-! ### Jar.of_beans -/
abbrev s_Jar_of_beans : Stmt := inClass (top 17) 1
theorem sc_Jar_of_beans : FnScope ["cls", "size", "beans", "counts", "bean"] ["cls", "size", "beans"] (defScope s_Jar_of_beans) := ⟨rfl, rfl, rfl, by decide +kernel, rfl, by decide +kernel, by decide +kernel⟩
noncomputable def b_Jar_of_beans (A : As) : SF :=
  (sSeq (sExpr (eCall (g_need_number A) (eCons (eVar 1) (eCons (eC (.int 1)) (eCons (eC (.int 8)) eNil))))) (sSeq (sIf (tNotD (eTru (eCall (g_is_sequence A) (eCons (eVar 2) eNil)))) sNo sNext) (sSeq (sExpr (eCall (g_need_colours A) (eCons (eVar 2) (eCons (eVar 1) eNil)))) (sSeq (sAsg (eOp2 mulN (eLst (eCons (eC (.int 0)) eNil)) (eVar 1)) (gN 3)) (sSeq (sFor (iSq (eVar 2)) (gN 4) (sScope [4] (sAugadd (eVar 3) (eVar 4) (eC (.int 1))))) (sRet (eMakeL 0 A.C_Jar (g_Jar_uuinituu A) (eCons (eMv (eVar 3)) eNil))))))))
noncomputable def g_Jar_of_beans (A : As) : List D → M D := callM 3 5 (b_Jar_of_beans A)

/-! ### _law_draw -/
abbrev s_ulaw_draw : Stmt := top 20
theorem sc_ulaw_draw : FnScope ["_law_pool_here", "_law_many", "_law_digit"] ["_law_pool_here", "_law_many"] (defScope s_ulaw_draw) := ⟨rfl, rfl, rfl, by decide +kernel, rfl, by decide +kernel, by decide +kernel⟩
noncomputable def b_ulaw_draw (A : As) : SF :=
  (sSeq (sIf (eB (eOp2 gtD (eOp2 ixD (eVar 0) (eC (.int 0))) (eC (.int 0)))) (sSeq (sAsg (eOp2 modD (eOp2 ixD (eVar 0) (eC (.int 0))) (eVar 1)) (gN 2)) (sSeq (sAsg (eOp2 divD (eOp2 ixD (eVar 0) (eC (.int 0))) (eVar 1)) (gSubD (eVar 0) (eC (.int 0)))) (sRet (eVar 2)))) sNext) (sSeq (sAsg (eOp2 modD (eOp2 addD (eOp2 mulD (eOp2 ixD (eVar 0) (eC (.int 1))) (eC (.int 48271))) (eC (.int 11))) (eC (.int 2147483647))) (gSubD (eVar 0) (eC (.int 1)))) (sRet (eOp2 modD (eOp2 divD (eOp2 modD (eOp2 mulD (eOp2 ixD (eVar 0) (eC (.int 1))) (eOp2 ixD (eVar 0) (eC (.int 1)))) (eC (.int 2147483629))) (eC (.int 64))) (eVar 1)))))
noncomputable def g_ulaw_draw (A : As) : List D → M D := callM 2 3 (b_ulaw_draw A)

/-! ### _law_counts -/
abbrev s_ulaw_counts : Stmt := top 22
theorem sc_ulaw_counts : FnScope ["_law_pool_here", "_law_size", "_law_found", "_law_colour"] ["_law_pool_here", "_law_size"] (defScope s_ulaw_counts) := ⟨rfl, rfl, rfl, by decide +kernel, rfl, by decide +kernel, by decide +kernel⟩
noncomputable def b_ulaw_counts (A : As) : SF :=
  (sSeq (sAsg (eNewL eNil) (gN 2)) (sSeq (sFor (iR1 (eCons (eVar 1) eNil)) (gN 3) (sScope [3] (sExpr (eApp (eVar 2) (eOp2 ixD (eLst (eCons (eC (.int 0)) (eCons (eCall (g_ulaw_draw A) (eCons (eVar 0) (eCons (eC (.int 6)) eNil))) (eCons (eCall (g_ulaw_draw A) (eCons (eVar 0) (eCons (eOp2 powD (eC (.int 10)) (eC (.int 30))) eNil))) eNil)))) (eCall (g_ulaw_draw A) (eCons (eVar 0) (eCons (eC (.int 3)) eNil)))))))) (sRet (eVar 2))))
noncomputable def g_ulaw_counts (A : As) : List D → M D := callM 2 4 (b_ulaw_counts A)

/-! ### Jar.colours -/
abbrev s_Jar_colours : Stmt := inClass (top 17) 5
theorem sc_Jar_colours : FnScope ["self", "colour", "count"] ["self"] (defScope s_Jar_colours) := ⟨rfl, rfl, rfl, by decide +kernel, rfl, by decide +kernel, by decide +kernel⟩
noncomputable def b_Jar_colours (A : As) : SF :=
  (sRet (eLc (iEnA (eCons (eFld A.C_Jar "amounts" (eVar 0)) eNil)) (gT [gN 1, gN 2]) [1, 2] (eB (eOp2 gtD (eVar 2) (eC (.int 0)))) (eVar 1)))
noncomputable def g_Jar_colours (A : As) : List D → M D := callM 1 3 (b_Jar_colours A)

noncomputable def b_Jar_coloursN1 (A : As) : SF :=
  (sRet (eLcN (iEnA (eCons (eFld A.C_Jar "amounts" (eVar 0)) eNil)) (gT [gN 1, gN 2]) [1, 2] (eB (eOp2 gtD (eVar 2) (eC (.int 0)))) (eVar 1)))
noncomputable def g_Jar_coloursN1 (A : As) : List D → M D := callN 1 3 (b_Jar_coloursN1 A)

/-! ### Jar.size -/
abbrev s_Jar_size : Stmt := inClass (top 17) 2
theorem sc_Jar_size : FnScope ["self"] ["self"] (defScope s_Jar_size) := ⟨rfl, rfl, rfl, by decide +kernel, rfl, by decide +kernel, by decide +kernel⟩
noncomputable def b_Jar_size (A : As) : SF :=
  (sRet (eCall lenD (eCons (eFld A.C_Jar "amounts" (eVar 0)) eNil)))
noncomputable def g_Jar_size (A : As) : List D → M D := callM 1 1 (b_Jar_size A)

/-! ### Jar.total -/
abbrev s_Jar_total : Stmt := inClass (top 17) 3
theorem sc_Jar_total : FnScope ["self"] ["self"] (defScope s_Jar_total) := ⟨rfl, rfl, rfl, by decide +kernel, rfl, by decide +kernel, by decide +kernel⟩
noncomputable def b_Jar_total (A : As) : SF :=
  (sRet (eCall sumA (eCons (eFld A.C_Jar "amounts" (eVar 0)) eNil)))
noncomputable def g_Jar_total (A : As) : List D → M D := callM 1 1 (b_Jar_total A)

/-! ### Jar.counts -/
abbrev s_Jar_counts : Stmt := inClass (top 17) 4
theorem sc_Jar_counts : FnScope ["self"] ["self"] (defScope s_Jar_counts) := ⟨rfl, rfl, rfl, by decide +kernel, rfl, by decide +kernel, by decide +kernel⟩
noncomputable def b_Jar_counts (A : As) : SF :=
  (sRet (eCall listD (eCons (eFld A.C_Jar "amounts" (eVar 0)) eNil)))
noncomputable def g_Jar_counts (A : As) : List D → M D := callM 1 1 (b_Jar_counts A)

noncomputable def b_Jar_countsN1 (A : As) : SF :=
  (sRet (eCall listN (eCons (eFld A.C_Jar "amounts" (eVar 0)) eNil)))
noncomputable def g_Jar_countsN1 (A : As) : List D → M D := callN 1 1 (b_Jar_countsN1 A)

/-! ### Jar.__bool__ -/
abbrev s_Jar_uubooluu : Stmt := inClass (top 17) 8
theorem sc_Jar_uubooluu : FnScope ["self"] ["self"] (defScope s_Jar_uubooluu) := ⟨rfl, rfl, rfl, by decide +kernel, rfl, by decide +kernel, by decide +kernel⟩
noncomputable def b_Jar_uubooluu (A : As) : SF :=
  (sRet (eCall anyA (eCons (eFld A.C_Jar "amounts" (eVar 0)) eNil)))
noncomputable def g_Jar_uubooluu (A : As) : List D → M D := callM 1 1 (b_Jar_uubooluu A)

/-! ### Jar.__getitem__ -/
abbrev s_Jar_uugetitemuu : Stmt := inClass (top 17) 6
theorem sc_Jar_uugetitemuu : FnScope ["self", "at"] ["self", "at"] (defScope s_Jar_uugetitemuu) := ⟨rfl, rfl, rfl, by decide +kernel, rfl, by decide +kernel, by decide +kernel⟩
noncomputable def b_Jar_uugetitemuu (A : As) : SF :=
  (sSeq (sIf (tNotD (eTru (eCall (g_is_colour A) (eCons (eVar 1) (eCons (eCall lenD (eCons (eFld A.C_Jar "amounts" (eVar 0)) eNil)) eNil))))) sNo sNext) (sRet (eOp2 ixD (eFld A.C_Jar "amounts" (eVar 0)) (eVar 1))))
noncomputable def g_Jar_uugetitemuu (A : As) : List D → M D := callM 2 2 (b_Jar_uugetitemuu A)

/-! ### Jar.__contains__ -/
abbrev s_Jar_uucontainsuu : Stmt := inClass (top 17) 7
theorem sc_Jar_uucontainsuu : FnScope ["self", "x"] ["self", "x"] (defScope s_Jar_uucontainsuu) := ⟨rfl, rfl, rfl, by decide +kernel, rfl, by decide +kernel, by decide +kernel⟩
noncomputable def b_Jar_uucontainsuu (A : As) : SF :=
  (sRet (eAnd (eCall (g_is_colour A) (eCons (eVar 1) (eCons (eCall lenD (eCons (eFld A.C_Jar "amounts" (eVar 0)) eNil)) eNil))) (eOp2 gtD (eOp2 ixD (eFld A.C_Jar "amounts" (eVar 0)) (eVar 1)) (eC (.int 0)))))
noncomputable def g_Jar_uucontainsuu (A : As) : List D → M D := callM 2 2 (b_Jar_uucontainsuu A)

/-! ### _law_check -/
abbrev s_ulaw_check : Stmt := top 23
theorem sc_ulaw_check : FnScope ["_law_jar", "_law_counts_here", "_law_size", "_law_colour", "_law_value"] ["_law_jar", "_law_counts_here", "_law_size"] (defScope s_ulaw_check) := ⟨rfl, rfl, rfl, by decide +kernel, rfl, by decide +kernel, by decide +kernel⟩
noncomputable def b_ulaw_check (A : As) : SF :=
  (sSeq (sIf (tOrD (eB (eOp2 neD (eProp A.C_Jar (g_Jar_size A) (eVar 0)) (eVar 2))) (eB (eOp2 neD (eProp A.C_Jar (g_Jar_total A) (eVar 0)) (eCall sumA (eCons (eVar 1) eNil))))) (sRet (eC (.bl false))) sNext) (sSeq (sIf (tOrD (eB (eOp2 neD (eMeth A.C_Jar "counts" (g_Jar_counts A) (eVar 0) eNil) (eVar 1))) (eB (eOp2 neD (eCall (oneD (bolOD A.C_Jar (g_Jar_uubooluu A))) (eCons (eVar 0) eNil)) (eOp2 gtD (eCall sumA (eCons (eVar 1) eNil)) (eC (.int 0)))))) (sRet (eC (.bl false))) sNext) (sSeq (sIf (eB (eOp2 neD (eMeth A.C_Jar "colours" (g_Jar_colours A) (eVar 0) eNil) (eLc (iR1 (eCons (eVar 2) eNil)) (gN 3) [3] (eB (eOp2 gtD (eOp2 ixD (eVar 1) (eVar 3)) (eC (.int 0)))) (eVar 3)))) (sRet (eC (.bl false))) sNext) (sSeq (sFor (iR1 (eCons (eVar 2) eNil)) (gN 3) (sScope [] (sSeq (sIf (eB (eOp2 neD (eSub A.C_Jar (g_Jar_uugetitemuu A) (eVar 0) (eVar 3)) (eOp2 ixD (eVar 1) (eVar 3)))) (sRet (eC (.bl false))) sNext) (sIf (eB (eOp2 neD (eOp2 (inOD A.C_Jar (g_Jar_uucontainsuu A)) (eVar 3) (eVar 0)) (eOp2 gtD (eOp2 ixD (eVar 1) (eVar 3)) (eC (.int 0))))) (sRet (eC (.bl false))) sNext)))) (sSeq (sFor (iSq (eLst (eCons (eC .non) (eCons (eNeg (eC (.int 1))) (eCons (eVar 2) (eCons (eC (.bl true)) (eCons (eC (.str "0")) (eCons (eTup (eCons (eC (.int 0)) eNil)) (eCons (eLst (eCons (eC (.int 0)) eNil)) (eCons (eC (.dct [])) eNil)))))))))) (gN 4) (sScope [4] (sIf (eB (eOp2 nisD (eOp2 (inOD A.C_Jar (g_Jar_uucontainsuu A)) (eVar 4) (eVar 0)) (eC (.bl false)))) (sRet (eC (.bl false))) sNext))) (sRet (eC (.bl true))))))))
noncomputable def g_ulaw_check (A : As) : List D → M D := callM 3 5 (b_ulaw_check A)

/-! ### need_same_size -/
abbrev s_need_same_size : Stmt := top 16
theorem sc_need_same_size : FnScope ["one", "other"] ["one", "other"] (defScope s_need_same_size) := ⟨rfl, rfl, rfl, by decide +kernel, rfl, by decide +kernel, by decide +kernel⟩
noncomputable def b_need_same_size (A : As) : SF :=
  (sIf (eB (eOp2 neD (eProp A.C_Jar (g_Jar_size A) (eVar 0)) (eProp A.C_Jar (g_Jar_size A) (eVar 1)))) sNo sNext)
noncomputable def g_need_same_size (A : As) : List D → M D := callM 2 2 (b_need_same_size A)

/-! ### Jar.__add__ -/
abbrev s_Jar_uuadduu : Stmt := inClass (top 17) 11
theorem sc_Jar_uuadduu : FnScope ["self", "other", "one", "more"] ["self", "other"] (defScope s_Jar_uuadduu) := ⟨rfl, rfl, rfl, by decide +kernel, rfl, by decide +kernel, by decide +kernel⟩
noncomputable def b_Jar_uuadduu (A : As) : SF :=
  (sSeq (sIf (tNotD (eTru (eIsi (anO A.C_Jar []) (eVar 1)))) sNo sNext) (sSeq (sExpr (eCall (g_need_same_size A) (eCons (eVar 0) (eCons (eVar 1) eNil)))) (sRet (eMake A.C_Jar (g_Jar_uuinituu A) (eCons (eLc (iZpA (eCons (eFld A.C_Jar "amounts" (eVar 0)) (eCons (eFld A.C_Jar "amounts" (eVar 1)) eNil))) (gT [gN 2, gN 3]) [2, 3] eYes (eOp2 addD (eVar 2) (eVar 3))) eNil)))))
noncomputable def g_Jar_uuadduu (A : As) : List D → M D := callM 2 4 (b_Jar_uuadduu A)

/-! ### Jar.__sub__ -/
abbrev s_Jar_uusubuu : Stmt := inClass (top 17) 12
theorem sc_Jar_uusubuu : FnScope ["self", "other", "colour", "count", "one", "less"] ["self", "other"] (defScope s_Jar_uusubuu) := ⟨rfl, rfl, rfl, by decide +kernel, rfl, by decide +kernel, by decide +kernel⟩
noncomputable def b_Jar_uusubuu (A : As) : SF :=
  (sSeq (sIf (tNotD (eTru (eIsi (anO A.C_Jar []) (eVar 1)))) sNo sNext) (sSeq (sExpr (eCall (g_need_same_size A) (eCons (eVar 0) (eCons (eVar 1) eNil)))) (sSeq (sFor (iEnA (eCons (eFld A.C_Jar "amounts" (eVar 0)) eNil)) (gT [(gN 2), (gN 3)]) (sScope [2, 3] (sIf (eB (eOp2 ltD (eVar 3) (eOp2 ixD (eFld A.C_Jar "amounts" (eVar 1)) (eVar 2)))) sNo sNext))) (sRet (eMake A.C_Jar (g_Jar_uuinituu A) (eCons (eLc (iZpA (eCons (eFld A.C_Jar "amounts" (eVar 0)) (eCons (eFld A.C_Jar "amounts" (eVar 1)) eNil))) (gT [gN 4, gN 5]) [4, 5] eYes (eOp2 subD (eVar 4) (eVar 5))) eNil))))))
noncomputable def g_Jar_uusubuu (A : As) : List D → M D := callM 2 6 (b_Jar_uusubuu A)

/-! ### Jar.__mul__ -/
abbrev s_Jar_uumuluu : Stmt := inClass (top 17) 13
theorem sc_Jar_uumuluu : FnScope ["self", "other", "count"] ["self", "other"] (defScope s_Jar_uumuluu) := ⟨rfl, rfl, rfl, by decide +kernel, rfl, by decide +kernel, by decide +kernel⟩
noncomputable def b_Jar_uumuluu (A : As) : SF :=
  (sSeq (sIf (tNotD (eTru (eCall (g_is_count A) (eCons (eVar 1) eNil)))) sNo sNext) (sRet (eMake A.C_Jar (g_Jar_uuinituu A) (eCons (eLc (iSq (eFld A.C_Jar "amounts" (eVar 0))) (gN 2) [2] eYes (eOp2 mulD (eVar 2) (eVar 1))) eNil))))
noncomputable def g_Jar_uumuluu (A : As) : List D → M D := callM 2 3 (b_Jar_uumuluu A)

/-! ### law -/
abbrev s_law : Stmt := top 25
theorem sc_law : FnScope ["_law_script", "_law_k", "_law_pool_here", "_law_size", "_law_counts_here", "_law_more", "_law_number", "_law_given", "_law_jar", "_law_other", "_law_beans_here", "_law_small", "_law_value", "_law_at", "_law_count"] ["_law_script"] (defScope s_law) := ⟨rfl, rfl, rfl, by decide +kernel, rfl, by decide +kernel, by decide +kernel⟩
noncomputable def b_law (A : As) : SF :=
  (sSeq (sFor (iR1 (eCons (eCall max2D (eCons (eC (.int 1)) (eCons (eCall min2D (eCons (eCall lenD (eCons (eVar 0) eNil)) (eCons (eC (.int 10)) eNil))) eNil))) eNil)) (gN 1) (sScope [1, 2, 3, 4, 5, 6, 7, 8, 9, 10, 11, 12, 13, 14] (sSeq (sAsg (eCall (g_ulaw_poolN1 A) (eCons (eVar 0) (eCons (eVar 1) eNil))) (gN 2)) (sSeq (sAsg (eOp2 addD (eC (.int 1)) (eCall (g_ulaw_draw A) (eCons (eVar 2) (eCons (eC (.int 8)) eNil)))) (gN 3)) (sSeq (sAsg (eTup (eCons (eCall (g_ulaw_counts A) (eCons (eVar 2) (eCons (eVar 3) eNil))) (eCons (eCall (g_ulaw_counts A) (eCons (eVar 2) (eCons (eVar 3) eNil))) (eCons (eCall (g_ulaw_draw A) (eCons (eVar 2) (eCons (eC (.int 5)) eNil))) eNil)))) (gT [(gN 4), (gN 5), (gN 6)])) (sSeq (sAsg (eCall listN (eCons (eVar 4) eNil)) (gN 7)) (sSeq (sAsg (eMakeF A.C_Jar (g_Jar_uuinituu A) (eCons (eIf (eB (eOp2 eqD (eCall (g_ulaw_draw A) (eCons (eVar 2) (eCons (eC (.int 2)) eNil))) (eC (.int 0)))) (eVar 7) (eCall tupleD (eCons (eVar 7) eNil))) eNil)) (gN 8)) (sSeq (sAsg (eC (.int 99)) (gSubD (eVar 7) (eC (.int 0)))) (sSeq (sExpr (eApp (eMeth A.C_Jar "counts" (g_Jar_countsN1 A) (eVar 8) eNil) (eC .non))) (sSeq (sExpr (eApp (eMeth A.C_Jar "colours" (g_Jar_coloursN1 A) (eVar 8) eNil) (eC .non))) (sSeq (sIf (tNotD (eTru (eCall (g_ulaw_check A) (eCons (eVar 8) (eCons (eVar 4) (eCons (eVar 3) eNil)))))) (sRet (eC (.bl false))) sNext) (sSeq (sAsg (eMake A.C_Jar (g_Jar_uuinituu A) (eCons (eVar 5) eNil)) (gN 9)) (sSeq (sIf (eB (eOp2 neD (eMeth A.C_Jar "counts" (g_Jar_counts A) (eOp2 (binOD A.C_Jar (g_Jar_uuadduu A)) (eVar 8) (eVar 9)) eNil) (eLc (iR1 (eCons (eVar 3) eNil)) (gN 13) [13] eYes (eOp2 addD (eOp2 ixD (eVar 4) (eVar 13)) (eOp2 ixD (eVar 5) (eVar 13)))))) (sRet (eC (.bl false))) sNext) (sSeq (sIf (eB (eOp2 (neOD A.C_Jar (g_Jar_uuequu A) (okTg A.C_Jar)) (eOp2 (binOD A.C_Jar (g_Jar_uuadduu A)) (eVar 8) (eVar 9)) (eOp2 (binOD A.C_Jar (g_Jar_uuadduu A)) (eVar 9) (eVar 8)))) (sRet (eC (.bl false))) sNext) (sSeq (sIf (eB (eOp2 (neOD A.C_Jar (g_Jar_uuequu A) (okTg A.C_Jar)) (eOp2 (binOD A.C_Jar (g_Jar_uusubuu A)) (eOp2 (binOD A.C_Jar (g_Jar_uuadduu A)) (eVar 8) (eVar 9)) (eVar 9)) (eVar 8))) (sRet (eC (.bl false))) sNext) (sSeq (sIf (eB (eOp2 neD (eMeth A.C_Jar "counts" (g_Jar_counts A) (eOp2 (binOI A.C_Jar (g_Jar_uumuluu A)) (eVar 8) (eVar 6)) eNil) (eLc (iSq (eVar 4)) (gN 14) [14] eYes (eOp2 mulD (eVar 14) (eVar 6))))) (sRet (eC (.bl false))) sNext) (sSeq (sIf (tOrD (tNotD (eTru (eCall (g_ulaw_check A) (eCons (eVar 8) (eCons (eVar 4) (eCons (eVar 3) eNil)))))) (eB (eOp2 neD (eMeth A.C_Jar "counts" (g_Jar_counts A) (eVar 9) eNil) (eVar 5)))) (sRet (eC (.bl false))) sNext) (sSeq (sIf (tOrD (eB (eOp2 (neOD A.C_Jar (g_Jar_uuequu A) (okTg A.C_Jar)) (eOp2 (binOI A.C_Jar (g_Jar_uumuluu A)) (eVar 8) (eC (.int 0))) (eMake A.C_Jar (g_Jar_uuinituu A) (eCons (eOp2 mulD (eLst (eCons (eC (.int 0)) eNil)) (eVar 3)) eNil)))) (eB (eOp2 (neOD A.C_Jar (g_Jar_uuequu A) (okTg A.C_Jar)) (eOp2 (binOD A.C_Jar (g_Jar_uusubuu A)) (eVar 8) (eVar 8)) (eOp2 (binOI A.C_Jar (g_Jar_uumuluu A)) (eVar 8) (eC (.int 0)))))) (sRet (eC (.bl false))) sNext) (sSeq (sAsg (eCall (g_ulaw_beans A) (eCons (eVar 4) eNil)) (gN 10)) (sSeq (sAsg (eCM A.C_Jar (g_Jar_of_beans A) (eCons (eVar 3) (eCons (eIf (eB (eOp2 eqD (eOp2 modD (eVar 6) (eC (.int 2))) (eC (.int 0)))) (eVar 10) (eCall tupleD (eCons (eVar 10) eNil))) eNil))) (gN 11)) (sSeq (sIf (eB (eOp2 neD (eMeth A.C_Jar "counts" (g_Jar_counts A) (eVar 11) eNil) (eLc (iSq (eVar 4)) (gN 14) [14] eYes (eOp2 modD (eVar 14) (eC (.int 4)))))) (sRet (eC (.bl false))) sNext) (sSeq (sIf (eB (eOp2 neD (eOp2 (eqOD A.C_Jar (g_Jar_uuequu A) (okTg A.C_Jar)) (eVar 8) (eVar 9)) (eOp2 eqD (eVar 4) (eVar 5)))) (sRet (eC (.bl false))) sNext) (sFor (iSq (eLst (eCons (eC .non) (eCons (eC (.int 5)) (eCons (eVar 4) (eCons (eCall tupleD (eCons (eVar 4) eNil)) (eCons (eLst (eCons (eVar 8) eNil)) (eCons (eC (.str "jar")) eNil)))))))) (gN 12) (sScope [12] (sIf (tOrD (eB (eOp2 nisD (eOp2 (eqOD A.C_Jar (g_Jar_uuequu A) (okTg A.C_Jar)) (eVar 8) (eVar 12)) (eC (.bl false)))) (eB (eOp2 nisD (eOp2 (neOD A.C_Jar (g_Jar_uuequu A) (okTg A.C_Jar)) (eVar 8) (eVar 12)) (eC (.bl true))))) (sRet (eC (.bl false))) sNext))))))))))))))))))))))))) (sRet (eC (.bl true))))
noncomputable def g_law (A : As) : List D → M D := callM 1 15 (b_law A)

structure Txt (A : As) (K : PySem.W.Frag) (mg : Str → Option Value) where
  f_ulaw_pool : Addr
  fd_ulaw_pool : FuncData
  f_is_sequence : Addr
  fd_is_sequence : FuncData
  f_is_integer : Addr
  fd_is_integer : FuncData
  f_is_count : Addr
  fd_is_count : FuncData
  f_Jar_uuinituu : Addr
  fd_Jar_uuinituu : FuncData
  f_Jar_uuequu : Addr
  fd_Jar_uuequu : FuncData
  f_ulaw_beans : Addr
  fd_ulaw_beans : FuncData
  f_need_number : Addr
  fd_need_number : FuncData
  f_is_colour : Addr
  fd_is_colour : FuncData
  f_need_colours : Addr
  fd_need_colours : FuncData
  f_Jar_of_beans : Addr
  fd_Jar_of_beans : FuncData
  pp_Jar_of_beans : Addr
  f_ulaw_draw : Addr
  fd_ulaw_draw : FuncData
  f_ulaw_counts : Addr
  fd_ulaw_counts : FuncData
  f_Jar_colours : Addr
  fd_Jar_colours : FuncData
  f_Jar_size : Addr
  fd_Jar_size : FuncData
  f_Jar_total : Addr
  fd_Jar_total : FuncData
  f_Jar_counts : Addr
  fd_Jar_counts : FuncData
  f_Jar_uubooluu : Addr
  fd_Jar_uubooluu : FuncData
  f_Jar_uugetitemuu : Addr
  fd_Jar_uugetitemuu : FuncData
  f_Jar_uucontainsuu : Addr
  fd_Jar_uucontainsuu : FuncData
  f_ulaw_check : Addr
  fd_ulaw_check : FuncData
  f_need_same_size : Addr
  fd_need_same_size : FuncData
  f_Jar_uuadduu : Addr
  fd_Jar_uuadduu : FuncData
  f_Jar_uusubuu : Addr
  fd_Jar_uusubuu : FuncData
  f_Jar_uumuluu : Addr
  fd_Jar_uumuluu : FuncData
  f_law : Addr
  fd_law : FuncData
  pp_Jar_size : Addr
  pp_Jar_total : Addr
  g_Jar : mg "Jar" = some (.ref A.C_Jar)
  i_Jar : InsT K A.C_Jar
  F_ulaw_pool : Fun K "_law_pool" "_law_pool" s_ulaw_pool f_ulaw_pool fd_ulaw_pool
  b_ulaw_pool : Binds K fd_ulaw_pool ["_law_script", "_law_k"] []
  m_ulaw_pool : mg "_law_pool" = some (.ref f_ulaw_pool)
  F_is_sequence : Fun K "is_sequence" "is_sequence" s_is_sequence f_is_sequence fd_is_sequence
  b_is_sequence : Binds K fd_is_sequence ["value"] []
  m_is_sequence : mg "is_sequence" = some (.ref f_is_sequence)
  F_is_integer : Fun K "is_integer" "is_integer" s_is_integer f_is_integer fd_is_integer
  b_is_integer : Binds K fd_is_integer ["value"] []
  m_is_integer : mg "is_integer" = some (.ref f_is_integer)
  F_is_count : Fun K "is_count" "is_count" s_is_count f_is_count fd_is_count
  b_is_count : Binds K fd_is_count ["value"] []
  m_is_count : mg "is_count" = some (.ref f_is_count)
  F_Jar_uuinituu : Fun K "__init__" "Jar.__init__" s_Jar_uuinituu f_Jar_uuinituu fd_Jar_uuinituu
  b_Jar_uuinituu : Binds K fd_Jar_uuinituu ["self", "counts"] []
  F_Jar_uuequu : Fun K "__eq__" "Jar.__eq__" s_Jar_uuequu f_Jar_uuequu fd_Jar_uuequu
  b_Jar_uuequu : Binds K fd_Jar_uuequu ["self", "other"] []
  F_ulaw_beans : Fun K "_law_beans" "_law_beans" s_ulaw_beans f_ulaw_beans fd_ulaw_beans
  b_ulaw_beans : Binds K fd_ulaw_beans ["_law_counts_here"] []
  m_ulaw_beans : mg "_law_beans" = some (.ref f_ulaw_beans)
  F_need_number : Fun K "need_number" "need_number" s_need_number f_need_number fd_need_number
  b_need_number : Binds K fd_need_number ["value", "least", "greatest"] []
  m_need_number : mg "need_number" = some (.ref f_need_number)
  F_is_colour : Fun K "is_colour" "is_colour" s_is_colour f_is_colour fd_is_colour
  b_is_colour : Binds K fd_is_colour ["value", "size"] []
  m_is_colour : mg "is_colour" = some (.ref f_is_colour)
  F_need_colours : Fun K "need_colours" "need_colours" s_need_colours f_need_colours fd_need_colours
  b_need_colours : Binds K fd_need_colours ["values", "size"] []
  m_need_colours : mg "need_colours" = some (.ref f_need_colours)
  F_Jar_of_beans : Fun K "of_beans" "Jar.of_beans" s_Jar_of_beans f_Jar_of_beans fd_Jar_of_beans
  b_Jar_of_beans : Binds K fd_Jar_of_beans ["cls", "size", "beans"] []
  h_Jar_of_beans : ClX.CMet K A.C_Jar (.type "type") "of_beans" pp_Jar_of_beans f_Jar_of_beans
  F_ulaw_draw : Fun K "_law_draw" "_law_draw" s_ulaw_draw f_ulaw_draw fd_ulaw_draw
  b_ulaw_draw : Binds K fd_ulaw_draw ["_law_pool_here", "_law_many"] []
  m_ulaw_draw : mg "_law_draw" = some (.ref f_ulaw_draw)
  F_ulaw_counts : Fun K "_law_counts" "_law_counts" s_ulaw_counts f_ulaw_counts fd_ulaw_counts
  b_ulaw_counts : Binds K fd_ulaw_counts ["_law_pool_here", "_law_size"] []
  m_ulaw_counts : mg "_law_counts" = some (.ref f_ulaw_counts)
  F_Jar_colours : Fun K "colours" "Jar.colours" s_Jar_colours f_Jar_colours fd_Jar_colours
  b_Jar_colours : Binds K fd_Jar_colours ["self"] []
  h_Jar_colours : Meth K A.C_Jar "colours" f_Jar_colours
  F_Jar_size : Fun K "size" "Jar.size" s_Jar_size f_Jar_size fd_Jar_size
  b_Jar_size : Binds K fd_Jar_size ["self"] []
  F_Jar_total : Fun K "total" "Jar.total" s_Jar_total f_Jar_total fd_Jar_total
  b_Jar_total : Binds K fd_Jar_total ["self"] []
  F_Jar_counts : Fun K "counts" "Jar.counts" s_Jar_counts f_Jar_counts fd_Jar_counts
  b_Jar_counts : Binds K fd_Jar_counts ["self"] []
  h_Jar_counts : Meth K A.C_Jar "counts" f_Jar_counts
  F_Jar_uubooluu : Fun K "__bool__" "Jar.__bool__" s_Jar_uubooluu f_Jar_uubooluu fd_Jar_uubooluu
  b_Jar_uubooluu : Binds K fd_Jar_uubooluu ["self"] []
  F_Jar_uugetitemuu : Fun K "__getitem__" "Jar.__getitem__" s_Jar_uugetitemuu f_Jar_uugetitemuu fd_Jar_uugetitemuu
  b_Jar_uugetitemuu : Binds K fd_Jar_uugetitemuu ["self", "at"] []
  F_Jar_uucontainsuu : Fun K "__contains__" "Jar.__contains__" s_Jar_uucontainsuu f_Jar_uucontainsuu fd_Jar_uucontainsuu
  b_Jar_uucontainsuu : Binds K fd_Jar_uucontainsuu ["self", "x"] []
  F_ulaw_check : Fun K "_law_check" "_law_check" s_ulaw_check f_ulaw_check fd_ulaw_check
  b_ulaw_check : Binds K fd_ulaw_check ["_law_jar", "_law_counts_here", "_law_size"] []
  m_ulaw_check : mg "_law_check" = some (.ref f_ulaw_check)
  F_need_same_size : Fun K "need_same_size" "need_same_size" s_need_same_size f_need_same_size fd_need_same_size
  b_need_same_size : Binds K fd_need_same_size ["one", "other"] []
  m_need_same_size : mg "need_same_size" = some (.ref f_need_same_size)
  F_Jar_uuadduu : Fun K "__add__" "Jar.__add__" s_Jar_uuadduu f_Jar_uuadduu fd_Jar_uuadduu
  b_Jar_uuadduu : Binds K fd_Jar_uuadduu ["self", "other"] []
  F_Jar_uusubuu : Fun K "__sub__" "Jar.__sub__" s_Jar_uusubuu f_Jar_uusubuu fd_Jar_uusubuu
  b_Jar_uusubuu : Binds K fd_Jar_uusubuu ["self", "other"] []
  F_Jar_uumuluu : Fun K "__mul__" "Jar.__mul__" s_Jar_uumuluu f_Jar_uumuluu fd_Jar_uumuluu
  b_Jar_uumuluu : Binds K fd_Jar_uumuluu ["self", "other"] []
  F_law : Fun K "law" "law" s_law f_law fd_law
  b_law : Binds K fd_law ["_law_script"] []
  m_law : mg "law" = some (.ref f_law)
  n_len : mg "len" = none
  n_min : mg "min" = none
  n_max : mg "max" = none
  n_range : mg "range" = none
  n_list : mg "list" = none
  n_tuple : mg "tuple" = none
  mk_Jar : Mk K A.C_Jar f_Jar_uuinituu
  s_Jar_add : PySem.W.findIn K (.ref A.C_Jar) "__add__" = some (some (.ref f_Jar_uuadduu))
  f_Jar_add : PySem.W.isFn K (.ref f_Jar_uuadduu) = true
  e_Jar_add : PySem.W.selfFirst K A.C_Jar = true
  s_Jar_eq : PySem.W.findIn K (.ref A.C_Jar) "__eq__" = some (some (.ref f_Jar_uuequu))
  f_Jar_eq : PySem.W.isFn K (.ref f_Jar_uuequu) = true
  x_Jar_ne : PySem.W.findIn K (.ref A.C_Jar) "__ne__" = some (some (.builtin "object.__ne__"))
  k_Jar : ∀ t, okTg A.C_Jar t = true → (∀ C, t = .inr C → InsT K C) ∧ PySem.W.notFirst K A.C_Jar (tgV t) = true
  s_Jar_sub : PySem.W.findIn K (.ref A.C_Jar) "__sub__" = some (some (.ref f_Jar_uusubuu))
  f_Jar_sub : PySem.W.isFn K (.ref f_Jar_uusubuu) = true
  e_Jar_sub : PySem.W.selfFirst K A.C_Jar = true
  s_Jar_mul : PySem.W.findIn K (.ref A.C_Jar) "__mul__" = some (some (.ref f_Jar_uumuluu))
  f_Jar_mul : PySem.W.isFn K (.ref f_Jar_uumuluu) = true
  e_Jar_mul : PySem.W.selfFirst K A.C_Jar = true
  ri_Jar_mul : PySem.W.findIn K (.ref A.C_Jar) "__rmul__" = some none
  ti_Jar_mul : PySem.W.findIn K (.type "int") "__mul__" = some (some (.builtin "int.__mul__"))
  tr_Jar_mul : PySem.W.findIn K (.type "int") "__rmul__" = some (some (.builtin "int.__rmul__"))
  ui_Jar : PySem.W.subIn K (.type "int") (.ref A.C_Jar) = some false
  r_Jar : ClX.CRead K A.C_Jar (.type "type")
  a_Jar_amounts : NoAttr K A.C_Jar "amounts"
  n_isinstance : mg "isinstance" = none
  y_Jar : ∀ t ∈ ["NoneType", "bool", "int", "str", "list", "tuple", "dict"], PySem.W.kitOne K (.type t) (.ref A.C_Jar) = some false
  z_Jar : ∀ C ∈ [], InsT K C ∧ PySem.W.kitOne K (.ref C) (.ref A.C_Jar) = some false
  n_enumerate : mg "enumerate" = none
  n_zip : mg "zip" = none
  p_Jar_size : PropOf K A.C_Jar "size" pp_Jar_size f_Jar_size
  p_Jar_total : PropOf K A.C_Jar "total" pp_Jar_total f_Jar_total
  n_sum : mg "sum" = none
  s_Jar_bool : PySem.W.findIn K (.ref A.C_Jar) "__bool__" = some (some (.ref f_Jar_uubooluu))
  f_Jar_bool : PySem.W.isFn K (.ref f_Jar_uubooluu) = true
  n_bool : mg "bool" = none
  s_Jar_getitem : PySem.W.findIn K (.ref A.C_Jar) "__getitem__" = some (some (.ref f_Jar_uugetitemuu))
  f_Jar_getitem : PySem.W.isFn K (.ref f_Jar_uugetitemuu) = true
  n_Jar_getitem : PySem.W.fnIn K f_Jar_uugetitemuu = true
  s_Jar_contains : PySem.W.findIn K (.ref A.C_Jar) "__contains__" = some (some (.ref f_Jar_uucontainsuu))
  f_Jar_contains : PySem.W.isFn K (.ref f_Jar_uucontainsuu) = true
  n_any : mg "any" = none
  c_MOST_COLOURS : ∃ t, mg "MOST_COLOURS" = some (.int 8 t)
  n_all : mg "all" = none
  q_int : ∀ C ∈ [A.C_Jar], InsT K C ∧ PySem.W.kitOne K (.ref C) (.type "int") = some false
  n_int : mg "int" = none
  q_bool : ∀ C ∈ [A.C_Jar], InsT K C ∧ PySem.W.kitOne K (.ref C) (.type "bool") = some false
  q_list : ∀ C ∈ [A.C_Jar], InsT K C ∧ PySem.W.kitOne K (.ref C) (.type "list") = some false
  q_tuple : ∀ C ∈ [A.C_Jar], InsT K C ∧ PySem.W.kitOne K (.ref C) (.type "tuple") = some false
theorem q2_ok {K : PySem.W.Frag} {T T2 : String} {cs : List Addr} (h : ∀ C ∈ cs, InsT K C ∧ PySem.W.kitOne K (.ref C) (.type T) = some false) (h2 : ∀ C ∈ cs, InsT K C ∧ PySem.W.kitOne K (.ref C) (.type T2) = some false) : ∀ C ∈ cs, InsT K C ∧ PySem.W.kitOne K (.ref C) (.type T) = some false ∧ PySem.W.kitOne K (.ref C) (.type T2) = some false := fun C hC => ⟨(h C hC).1, (h C hC).2, (h2 C hC).2⟩
section
variable {P : Program} {w : World} {K : PySem.W.Frag} {mg : Str → Option Value} {base : Heap} {A : As}
theorem ok_ulaw_pool (T : Txt A K mg) : FnOk P w K mg base (L2.CX P w) 1 T.f_ulaw_pool T.fd_ulaw_pool ["_law_script", "_law_k"] (spD K (g_ulaw_pool A)) := by

  refine def_ok (k := 0) T.F_ulaw_pool sc_ulaw_pool (fun cdv A' outer s0 H E hr => ?_)
  have px : Passes (L2.CX P w) (cxOf (L2.CX P w) P w K mg base ["_law_script", "_law_k", "_law_cell", "_law_seed"] "_law_pool" (defScope s_ulaw_pool) T.f_ulaw_pool cdv A' outer s0 H E) E := passes_call (takes_of rfl rfl rfl rfl) (fun _ _ _ _ h => h)
  have nd := sc_ulaw_pool.nd
  have hu65 := units65 hr
  exact (dss_cons (ds_set de_int (fun h => ps_set (i := 2) nd rfl (Or.inl rfl) h)) (dss_cons (ds_if (dt_cmp od_lt (de_var 1 (pv 1)) (de_cb cd_len T.n_len (da_cons (de_var 0 (pv 0)) da_nil)) (nomark _)) (dss_one (ds_set (de_ix (de_var 0 (pv 0)) (de_var 1 (pv 1)) (fun _ _ => rfl)) (fun h => ps_set (i := 2) nd rfl (Or.inl rfl) h))) dss_nil) (dss_cons (ds_set (de_op od_mod (de_op od_pow (de_op od_add (de_op od_add (de_op od_mod (de_var 2 (pv 2)) de_int) (de_op od_mul (de_op od_mul de_int (de_var 1 (pv 1))) (de_var 1 (pv 1)))) de_int) de_int) de_int) (fun h => ps_set (i := 3) nd rfl (Or.inl rfl) h)) (dss_cons (ds_if (dt_cmp od_lt (de_var 2 (pv 2)) (de_op od_pow de_int de_int) (nomark _)) (dss_one (ds_set de_int (fun h => ps_set (i := 2) nd rfl (Or.inl rfl) h))) dss_nil) (dss_one (ds_ret (de_lst (da_cons (de_var 2 (pv 2)) (da_cons (de_var 3 (pv 3)) da_nil)))))))))

theorem ok_ulaw_poolN1 (T : Txt A K mg) : FnOk P w K mg base (L2.CX P w) 1 T.f_ulaw_pool T.fd_ulaw_pool ["_law_script", "_law_k"] (spD K (g_ulaw_poolN1 A)) := by

  refine def_okN (k := 0) T.F_ulaw_pool sc_ulaw_pool (fun cdv A' outer s0 H E hr => ?_)
  have px : Passes (L2.CX P w) (cxOf (L2.CX P w) P w K mg base ["_law_script", "_law_k", "_law_cell", "_law_seed"] "_law_pool" (defScope s_ulaw_pool) T.f_ulaw_pool cdv A' outer s0 H E) E := passes_call (takes_of rfl rfl rfl rfl) (fun _ _ _ _ h => h)
  have nd := sc_ulaw_pool.nd
  have hu65 := units65 hr
  exact (dss_cons (ds_set de_int (fun h => ps_set (i := 2) nd rfl (Or.inl rfl) h)) (dss_cons (ds_if (dt_cmp od_lt (de_var 1 (pv 1)) (de_cb cd_len T.n_len (da_cons (de_var 0 (pv 0)) da_nil)) (nomark _)) (dss_one (ds_set (de_ix (de_var 0 (pv 0)) (de_var 1 (pv 1)) (fun _ _ => rfl)) (fun h => ps_set (i := 2) nd rfl (Or.inl rfl) h))) dss_nil) (dss_cons (ds_set (de_op od_mod (de_op od_pow (de_op od_add (de_op od_add (de_op od_mod (de_var 2 (pv 2)) de_int) (de_op od_mul (de_op od_mul de_int (de_var 1 (pv 1))) (de_var 1 (pv 1)))) de_int) de_int) de_int) (fun h => ps_set (i := 3) nd rfl (Or.inl rfl) h)) (dss_cons (ds_if (dt_cmp od_lt (de_var 2 (pv 2)) (de_op od_pow de_int de_int) (nomark _)) (dss_one (ds_set de_int (fun h => ps_set (i := 2) nd rfl (Or.inl rfl) h))) dss_nil) (dss_one (ds_ret (de_newL (da_cons (de_var 2 (pv 2)) (da_cons (de_var 3 (pv 3)) da_nil)))))))))

theorem ok_is_sequence (T : Txt A K mg) : FnOk P w K mg base (L2.CX P w) 1 T.f_is_sequence T.fd_is_sequence ["value"] (spD K (g_is_sequence A)) := by

  refine def_ok (k := 0) T.F_is_sequence sc_is_sequence (fun cdv A' outer s0 H E hr => ?_)
  have px : Passes (L2.CX P w) (cxOf (L2.CX P w) P w K mg base ["value"] "is_sequence" (defScope s_is_sequence) T.f_is_sequence cdv A' outer s0 H E) E := passes_call (takes_of rfl rfl rfl rfl) (fun _ _ _ _ h => h)
  have nd := sc_is_sequence.nd
  have hu65 := units65 hr
  exact (dss_one (ds_ret (de_isiT (cs := [.ty "list", .ty "tuple"]) T.n_isinstance (de_var 0 (pv 0)) (pa_cons (pe_bltn (v := .ty "list") (u := .type "list") (by rfl) T.n_list (by decide +kernel) rfl) (pa_cons (pe_bltn (v := .ty "tuple") (u := .type "tuple") (by rfl) T.n_tuple (by decide +kernel) rfl) pa_nil)) (fun _ _ _ h => h) (.cons (.ty _) (.cons (.ty _) .nil)) (by show 2 ≤ sizeLine; decide) (anB2_ok (q2_ok T.q_list T.q_tuple)))))

theorem ok_is_integer (T : Txt A K mg) : FnOk P w K mg base (L2.CX P w) 1 T.f_is_integer T.fd_is_integer ["value"] (spD K (g_is_integer A)) := by

  refine def_ok (k := 0) T.F_is_integer sc_is_integer (fun cdv A' outer s0 H E hr => ?_)
  have px : Passes (L2.CX P w) (cxOf (L2.CX P w) P w K mg base ["value"] "is_integer" (defScope s_is_integer) T.f_is_integer cdv A' outer s0 H E) E := passes_call (takes_of rfl rfl rfl rfl) (fun _ _ _ _ h => h)
  have nd := sc_is_integer.nd
  have hu65 := units65 hr
  exact (dss_one (ds_ret (de_and (de_isi T.n_isinstance (de_var 0 (pv 0)) (pe_bltn (v := .ty "int") (u := .type "int") (by rfl) T.n_int (by decide +kernel) rfl) (.ty _) (anB_ok T.q_int)) (de_one (de_not (de_isi T.n_isinstance (de_var 0 (pv 0)) (pe_bltn (v := .ty "bool") (u := .type "bool") (by rfl) T.n_bool (by decide +kernel) rfl) (.ty _) (anB_ok T.q_bool)))))))

theorem ok_is_count (T : Txt A K mg) : FnOk P w K mg base (L2.CX P w) 2 T.f_is_count T.fd_is_count ["value"] (spD K (g_is_count A)) := by
  have G_is_integer := ok_is_integer (P := P) (w := w) (base := base) T
  refine def_ok (k := 1) T.F_is_count sc_is_count (fun cdv A' outer s0 H E hr => ?_)
  have px : Passes (L2.CX P w) (cxOf (L2.CX P w) P w K mg base ["value"] "is_count" (defScope s_is_count) T.f_is_count cdv A' outer s0 H E) E := passes_call (takes_of rfl rfl rfl rfl) (fun _ _ _ _ h => h)
  have nd := sc_is_count.nd
  have hu65 := units65 hr
  exact (dss_one (ds_ret (de_and (de_call G_is_integer (hr.mono (by decide)) T.m_is_integer T.F_is_integer.kp T.b_is_integer px (da_cons (de_var 0 (pv 0)) da_nil)) (de_one (de_cmp od_ge (de_var 0 (pv 0)) de_int (nomark _))))))

theorem ok_Jar_uuinituu (T : Txt A K mg) : FnOk P w K mg base (L2.CX P w) 3 T.f_Jar_uuinituu T.fd_Jar_uuinituu ["self", "counts"] (spD K (g_Jar_uuinituu A)) := by
  have G_is_sequence := ok_is_sequence (P := P) (w := w) (base := base) T
  have G_is_count := ok_is_count (P := P) (w := w) (base := base) T
  refine def_ok (k := 2) T.F_Jar_uuinituu sc_Jar_uuinituu (fun cdv A' outer s0 H E hr => ?_)
  have px : Passes (L2.CX P w) (cxOf (L2.CX P w) P w K mg base ["self", "counts", "count"] "Jar.__init__" (defScope s_Jar_uuinituu) T.f_Jar_uuinituu cdv A' outer s0 H E) E := passes_call (takes_of rfl rfl rfl rfl) (fun _ _ _ _ h => h)
  have nd := sc_Jar_uuinituu.nd
  have hu65 := units65 hr
  exact (dss_cons (ds_if (PW.pt (dw_or (dt_not (dt_tru (de_call G_is_sequence (hr.mono (by decide)) T.m_is_sequence T.F_is_sequence.kp T.b_is_sequence px (da_cons (de_var 1 (pv 1)) da_nil)))) (dw_or1 (dt_not (dt_ch od_le od_le de_int (de_cb cd_len T.n_len (da_cons (de_var 1 (pv 1)) da_nil)) (de_c (pe_glob (v := .int 8) rfl T.c_MOST_COLOURS.choose_spec ⟨_, rfl⟩) (fun _ _ => to_int))))))) (dss_one ds_no) dss_nil) (dss_cons (ds_if (dt_not (dt_tru (de_cb (cd_all rfl) T.n_all (da_cons (de_lc (own := [("count", 2)]) rfl nd (di_seq (de_var 1 (pv 1))) (blkOk_by (by rfl)) (cg_name (i := 2) (by decide)) (fun _ _ _ _ _ => pg_name (i := 2) nd rfl (Or.inl rfl)) (fun _ _ _ _ _ => dts_nil) (fun _ _ _ _ _ => (de_call G_is_count (hr.mono (by decide)) T.m_is_count T.F_is_count.kp T.b_is_count passL (da_cons (de_var 2 (pv 2)) da_nil)))) da_nil)))) (dss_one ds_no) dss_nil) (dss_one (ds_fld (de_var 0 (pv 0)) (de_ct cd_tuple T.n_tuple (da_cons (de_var 1 (pv 1)) da_nil)) T.i_Jar.cl T.a_Jar_amounts))))

theorem ok_Jar_uuequu (T : Txt A K mg) : FnOk P w K mg base (L2.CX P w) 1 T.f_Jar_uuequu T.fd_Jar_uuequu ["self", "other"] (spD K (g_Jar_uuequu A)) := by

  refine def_ok (k := 0) T.F_Jar_uuequu sc_Jar_uuequu (fun cdv A' outer s0 H E hr => ?_)
  have px : Passes (L2.CX P w) (cxOf (L2.CX P w) P w K mg base ["self", "other"] "Jar.__eq__" (defScope s_Jar_uuequu) T.f_Jar_uuequu cdv A' outer s0 H E) E := passes_call (takes_of rfl rfl rfl rfl) (fun _ _ _ _ h => h)
  have nd := sc_Jar_uuequu.nd
  have hu65 := units65 hr
  exact (dss_one (ds_ret (de_and (de_isi T.n_isinstance (de_var 1 (pv 1)) (pe_glob (v := .ref A.C_Jar) rfl T.g_Jar rfl) (.own _) (anO_ok T.i_Jar T.y_Jar T.z_Jar)) (de_one (de_cmp (od_eq hr.units) (de_fld (de_var 0 (pv 0)) T.i_Jar.cl T.a_Jar_amounts) (de_fld (de_var 1 (pv 1)) T.i_Jar.cl T.a_Jar_amounts) (nomark _))))))

theorem ok_ulaw_beans (T : Txt A K mg) : FnOk P w K mg base (L2.CX P w) 1 T.f_ulaw_beans T.fd_ulaw_beans ["_law_counts_here"] (spD K (g_ulaw_beans A)) := by

  refine def_ok (k := 0) T.F_ulaw_beans sc_ulaw_beans (fun cdv A' outer s0 H E hr => ?_)
  have px : Passes (L2.CX P w) (cxOf (L2.CX P w) P w K mg base ["_law_counts_here", "_law_beans_here", "_law_colour"] "_law_beans" (defScope s_ulaw_beans) T.f_ulaw_beans cdv A' outer s0 H E) E := passes_call (takes_of rfl rfl rfl rfl) (fun _ _ _ _ h => h)
  have nd := sc_ulaw_beans.nd
  have hu65 := units65 hr
  exact (dss_cons (ds_set (de_lst da_nil) (fun h => ps_set (i := 1) nd rfl (Or.inl rfl) h)) (dss_cons (ds_for (passes_of rfl) rfl (di_range1 (by rfl) T.n_range (da_cons (de_cb cd_len T.n_len (da_cons (de_var 0 (pv 0)) da_nil)) da_nil)) (dg_name (pg_name (i := 2) nd rfl (Or.inl rfl))) (dss_scope (drop := [2]) (dss_one (ds_set (de_op od_add (de_op od_mul (de_lst (da_cons (de_var 2 (pv 2)) da_nil)) (de_op od_mod (de_ix (de_var 0 (pv 0)) (de_var 2 (pv 2)) (fun _ _ => rfl)) de_int)) (de_var 1 (pv 1))) (fun h => ps_set (i := 1) nd rfl (Or.inl rfl) h))))) (dss_one (ds_ret (de_var 1 (pv 1))))))

theorem ok_need_number (T : Txt A K mg) : FnOk P w K mg base (L2.CX P w) 2 T.f_need_number T.fd_need_number ["value", "least", "greatest"] (spD K (g_need_number A)) := by
  have G_is_integer := ok_is_integer (P := P) (w := w) (base := base) T
  refine def_ok (k := 1) T.F_need_number sc_need_number (fun cdv A' outer s0 H E hr => ?_)
  have px : Passes (L2.CX P w) (cxOf (L2.CX P w) P w K mg base ["value", "least", "greatest"] "need_number" (defScope s_need_number) T.f_need_number cdv A' outer s0 H E) E := passes_call (takes_of rfl rfl rfl rfl) (fun _ _ _ _ h => h)
  have nd := sc_need_number.nd
  have hu65 := units65 hr
  exact (dss_one (ds_if (PW.pt (dw_or (dt_not (dt_tru (de_call G_is_integer (hr.mono (by decide)) T.m_is_integer T.F_is_integer.kp T.b_is_integer px (da_cons (de_var 0 (pv 0)) da_nil)))) (dw_or (dt_cmp od_lt (de_var 0 (pv 0)) (de_var 1 (pv 1)) (nomark _)) (dw_or1 (PW.pt (dw_and (dt_cmp od_nis (de_var 2 (pv 2)) de_non (nomark _)) (dw_and1 (dt_cmp od_gt (de_var 0 (pv 0)) (de_var 2 (pv 2)) (nomark _))))))))) (dss_one ds_no) dss_nil))

theorem ok_is_colour (T : Txt A K mg) : FnOk P w K mg base (L2.CX P w) 2 T.f_is_colour T.fd_is_colour ["value", "size"] (spD K (g_is_colour A)) := by
  have G_is_integer := ok_is_integer (P := P) (w := w) (base := base) T
  refine def_ok (k := 1) T.F_is_colour sc_is_colour (fun cdv A' outer s0 H E hr => ?_)
  have px : Passes (L2.CX P w) (cxOf (L2.CX P w) P w K mg base ["value", "size"] "is_colour" (defScope s_is_colour) T.f_is_colour cdv A' outer s0 H E) E := passes_call (takes_of rfl rfl rfl rfl) (fun _ _ _ _ h => h)
  have nd := sc_is_colour.nd
  have hu65 := units65 hr
  exact (dss_one (ds_ret (de_and (de_call G_is_integer (hr.mono (by decide)) T.m_is_integer T.F_is_integer.kp T.b_is_integer px (da_cons (de_var 0 (pv 0)) da_nil)) (de_one (de_ch od_le od_lt de_int (de_var 0 (pv 0)) (de_var 1 (pv 1)))))))

theorem ok_need_colours (T : Txt A K mg) : FnOk P w K mg base (L2.CX P w) 3 T.f_need_colours T.fd_need_colours ["values", "size"] (spD K (g_need_colours A)) := by
  have G_is_colour := ok_is_colour (P := P) (w := w) (base := base) T
  refine def_ok (k := 2) T.F_need_colours sc_need_colours (fun cdv A' outer s0 H E hr => ?_)
  have px : Passes (L2.CX P w) (cxOf (L2.CX P w) P w K mg base ["values", "size", "value"] "need_colours" (defScope s_need_colours) T.f_need_colours cdv A' outer s0 H E) E := passes_call (takes_of rfl rfl rfl rfl) (fun _ _ _ _ h => h)
  have nd := sc_need_colours.nd
  have hu65 := units65 hr
  exact (dss_one (ds_for (passes_of rfl) rfl (di_seq (de_var 0 (pv 0))) (dg_name (pg_name (i := 2) nd rfl (Or.inl rfl))) (dss_scope (drop := [2]) (dss_one (ds_if (dt_not (dt_tru (de_call G_is_colour (hr.mono (by decide)) T.m_is_colour T.F_is_colour.kp T.b_is_colour px (da_cons (de_var 2 (pv 2)) (da_cons (de_var 1 (pv 1)) da_nil))))) (dss_one ds_no) dss_nil)))))

theorem ok_Jar_of_beans (T : Txt A K mg) : FnOk P w K mg base (L2.CX P w) 5 T.f_Jar_of_beans T.fd_Jar_of_beans ["cls", "size", "beans"] (spD K (g_Jar_of_beans A)) := by
  have G_need_number := ok_need_number (P := P) (w := w) (base := base) T
  have G_is_sequence := ok_is_sequence (P := P) (w := w) (base := base) T
  have G_need_colours := ok_need_colours (P := P) (w := w) (base := base) T
  have G_Jar_uuinituu := ok_Jar_uuinituu (P := P) (w := w) (base := base) T
  refine def_ok (k := 4) T.F_Jar_of_beans sc_Jar_of_beans (fun cdv A' outer s0 H E hr => ?_)
  have px : Passes (L2.CX P w) (cxOf (L2.CX P w) P w K mg base ["cls", "size", "beans", "counts", "bean"] "Jar.of_beans" (defScope s_Jar_of_beans) T.f_Jar_of_beans cdv A' outer s0 H E) E := passes_call (takes_of rfl rfl rfl rfl) (fun _ _ _ _ h => h)
  have nd := sc_Jar_of_beans.nd
  have hu65 := units65 hr
  exact (dss_cons (ds_expr (de_call G_need_number (hr.mono (by decide)) T.m_need_number T.F_need_number.kp T.b_need_number px (da_cons (de_var 1 (pv 1)) (da_cons de_int (da_cons (de_c (pe_glob (v := .int 8) rfl T.c_MOST_COLOURS.choose_spec ⟨_, rfl⟩) (fun _ _ => to_int)) da_nil))))) (dss_cons (ds_if (dt_not (dt_tru (de_call G_is_sequence (hr.mono (by decide)) T.m_is_sequence T.F_is_sequence.kp T.b_is_sequence px (da_cons (de_var 2 (pv 2)) da_nil)))) (dss_one ds_no) dss_nil) (dss_cons (ds_expr (de_call G_need_colours (hr.mono (by decide)) T.m_need_colours T.F_need_colours.kp T.b_need_colours px (da_cons (de_var 2 (pv 2)) (da_cons (de_var 1 (pv 1)) da_nil)))) (dss_cons (ds_set (de_op od_mulN (de_lst (da_cons de_int da_nil)) (de_var 1 (pv 1))) (fun h => ps_set (i := 3) nd rfl (Or.inl rfl) h)) (dss_cons (ds_for (passes_of rfl) rfl (di_seq (de_var 2 (pv 2))) (dg_name (pg_name (i := 4) nd rfl (Or.inl rfl))) (dss_scope (drop := [4]) (dss_one (ds_augadd (de_var 3 (pv 3)) (de_var 4 (pv 4)) de_int)))) (dss_one (ds_ret (de_makeL (i := 0) T.mk_Jar G_Jar_uuinituu (hr.mono (by decide)) T.b_Jar_uuinituu px (da_cons (de_mv (de_var 3 (pv 3))) da_nil)))))))))

theorem ok_ulaw_draw (T : Txt A K mg) : FnOk P w K mg base (L2.CX P w) 1 T.f_ulaw_draw T.fd_ulaw_draw ["_law_pool_here", "_law_many"] (spD K (g_ulaw_draw A)) := by

  refine def_ok (k := 0) T.F_ulaw_draw sc_ulaw_draw (fun cdv A' outer s0 H E hr => ?_)
  have px : Passes (L2.CX P w) (cxOf (L2.CX P w) P w K mg base ["_law_pool_here", "_law_many", "_law_digit"] "_law_draw" (defScope s_ulaw_draw) T.f_ulaw_draw cdv A' outer s0 H E) E := passes_call (takes_of rfl rfl rfl rfl) (fun _ _ _ _ h => h)
  have nd := sc_ulaw_draw.nd
  have hu65 := units65 hr
  exact (dss_cons (ds_if (dt_cmp od_gt (de_ix (de_var 0 (pv 0)) de_int (fun _ _ => rfl)) de_int (nomark _)) (dss_cons (ds_set (de_op od_mod (de_ix (de_var 0 (pv 0)) de_int (fun _ _ => rfl)) (de_var 1 (pv 1))) (fun h => ps_set (i := 2) nd rfl (Or.inl rfl) h)) (dss_cons (ds_asg (de_op od_div (de_ix (de_var 0 (pv 0)) de_int (fun _ _ => rfl)) (de_var 1 (pv 1))) (dg_sub (de_var 0 (pv 0)) de_int)) (dss_one (ds_ret (de_var 2 (pv 2)))))) dss_nil) (dss_cons (ds_asg (de_op od_mod (de_op od_add (de_op od_mul (de_ix (de_var 0 (pv 0)) de_int (fun _ _ => rfl)) de_int) de_int) de_int) (dg_sub (de_var 0 (pv 0)) de_int)) (dss_one (ds_ret (de_op od_mod (de_op od_div (de_op od_mod (de_op od_mul (de_ix (de_var 0 (pv 0)) de_int (fun _ _ => rfl)) (de_ix (de_var 0 (pv 0)) de_int (fun _ _ => rfl))) de_int) de_int) (de_var 1 (pv 1)))))))

theorem ok_ulaw_counts (T : Txt A K mg) : FnOk P w K mg base (L2.CX P w) 2 T.f_ulaw_counts T.fd_ulaw_counts ["_law_pool_here", "_law_size"] (spD K (g_ulaw_counts A)) := by
  have G_ulaw_draw := ok_ulaw_draw (P := P) (w := w) (base := base) T
  refine def_ok (k := 1) T.F_ulaw_counts sc_ulaw_counts (fun cdv A' outer s0 H E hr => ?_)
  have px : Passes (L2.CX P w) (cxOf (L2.CX P w) P w K mg base ["_law_pool_here", "_law_size", "_law_found", "_law_colour"] "_law_counts" (defScope s_ulaw_counts) T.f_ulaw_counts cdv A' outer s0 H E) E := passes_call (takes_of rfl rfl rfl rfl) (fun _ _ _ _ h => h)
  have nd := sc_ulaw_counts.nd
  have hu65 := units65 hr
  exact (dss_cons (ds_set (de_newL da_nil) (fun h => ps_set (i := 2) nd rfl (Or.inl rfl) h)) (dss_cons (ds_for (passes_of rfl) rfl (di_range1 (by rfl) T.n_range (da_cons (de_var 1 (pv 1)) da_nil)) (dg_name (pg_name (i := 3) nd rfl (Or.inl rfl))) (dss_scope (drop := [3]) (dss_one (ds_expr (de_append (de_var 2 (pv 2)) (de_ix (de_lst (da_cons de_int (da_cons (de_call G_ulaw_draw (hr.mono (by decide)) T.m_ulaw_draw T.F_ulaw_draw.kp T.b_ulaw_draw px (da_cons (de_var 0 (pv 0)) (da_cons de_int da_nil))) (da_cons (de_call G_ulaw_draw (hr.mono (by decide)) T.m_ulaw_draw T.F_ulaw_draw.kp T.b_ulaw_draw px (da_cons (de_var 0 (pv 0)) (da_cons (de_op od_pow de_int de_int) da_nil))) da_nil)))) (de_call G_ulaw_draw (hr.mono (by decide)) T.m_ulaw_draw T.F_ulaw_draw.kp T.b_ulaw_draw px (da_cons (de_var 0 (pv 0)) (da_cons de_int da_nil))) (fun _ _ => rfl))))))) (dss_one (ds_ret (de_var 2 (pv 2))))))

theorem ok_Jar_colours (T : Txt A K mg) : FnOk P w K mg base (L2.CX P w) 1 T.f_Jar_colours T.fd_Jar_colours ["self"] (spD K (g_Jar_colours A)) := by

  refine def_ok (k := 0) T.F_Jar_colours sc_Jar_colours (fun cdv A' outer s0 H E hr => ?_)
  have px : Passes (L2.CX P w) (cxOf (L2.CX P w) P w K mg base ["self", "colour", "count"] "Jar.colours" (defScope s_Jar_colours) T.f_Jar_colours cdv A' outer s0 H E) E := passes_call (takes_of rfl rfl rfl rfl) (fun _ _ _ _ h => h)
  have nd := sc_Jar_colours.nd
  have hu65 := units65 hr
  exact (dss_one (ds_ret (de_lc (own := [("colour", 1), ("count", 2)]) rfl nd (di_enumA rfl T.n_enumerate (da_cons (de_fld (de_var 0 (pv 0)) T.i_Jar.cl T.a_Jar_amounts) da_nil)) (blkOk_by (by rfl)) (cg_pair (i := 1) (j := 2) (by decide) (by decide)) (fun _ _ _ _ _ => pg_tup rfl (pgs_cons (pg_name (i := 1) nd rfl (Or.inl rfl)) (pgs_cons (pg_name (i := 2) nd rfl (Or.inl rfl)) pgs_nil))) (fun _ _ _ _ _ => dts_one (dt_cmp od_gt (de_var 2 (pv 2)) de_int (nomark _))) (fun _ _ _ _ _ => (de_var 1 (pv 1))))))

theorem ok_Jar_coloursN1 (T : Txt A K mg) : FnOk P w K mg base (L2.CX P w) 1 T.f_Jar_colours T.fd_Jar_colours ["self"] (spD K (g_Jar_coloursN1 A)) := by

  refine def_okN (k := 0) T.F_Jar_colours sc_Jar_colours (fun cdv A' outer s0 H E hr => ?_)
  have px : Passes (L2.CX P w) (cxOf (L2.CX P w) P w K mg base ["self", "colour", "count"] "Jar.colours" (defScope s_Jar_colours) T.f_Jar_colours cdv A' outer s0 H E) E := passes_call (takes_of rfl rfl rfl rfl) (fun _ _ _ _ h => h)
  have nd := sc_Jar_colours.nd
  have hu65 := units65 hr
  exact (dss_one (ds_ret (de_lcN (own := [("colour", 1), ("count", 2)]) rfl nd (di_enumA rfl T.n_enumerate (da_cons (de_fld (de_var 0 (pv 0)) T.i_Jar.cl T.a_Jar_amounts) da_nil)) (blkOk_by (by rfl)) (cg_pair (i := 1) (j := 2) (by decide) (by decide)) (fun _ _ _ _ _ => pg_tup rfl (pgs_cons (pg_name (i := 1) nd rfl (Or.inl rfl)) (pgs_cons (pg_name (i := 2) nd rfl (Or.inl rfl)) pgs_nil))) (fun _ _ _ _ _ => dts_one (dt_cmp od_gt (de_var 2 (pv 2)) de_int (nomark _))) (fun _ _ _ _ _ => (de_var 1 (pv 1))))))

theorem ok_Jar_size (T : Txt A K mg) : FnOk P w K mg base (L2.CX P w) 1 T.f_Jar_size T.fd_Jar_size ["self"] (spD K (g_Jar_size A)) := by

  refine def_ok (k := 0) T.F_Jar_size sc_Jar_size (fun cdv A' outer s0 H E hr => ?_)
  have px : Passes (L2.CX P w) (cxOf (L2.CX P w) P w K mg base ["self"] "Jar.size" (defScope s_Jar_size) T.f_Jar_size cdv A' outer s0 H E) E := passes_call (takes_of rfl rfl rfl rfl) (fun _ _ _ _ h => h)
  have nd := sc_Jar_size.nd
  have hu65 := units65 hr
  exact (dss_one (ds_ret (de_cb cd_len T.n_len (da_cons (de_fld (de_var 0 (pv 0)) T.i_Jar.cl T.a_Jar_amounts) da_nil))))

theorem ok_Jar_total (T : Txt A K mg) : FnOk P w K mg base (L2.CX P w) 1 T.f_Jar_total T.fd_Jar_total ["self"] (spD K (g_Jar_total A)) := by

  refine def_ok (k := 0) T.F_Jar_total sc_Jar_total (fun cdv A' outer s0 H E hr => ?_)
  have px : Passes (L2.CX P w) (cxOf (L2.CX P w) P w K mg base ["self"] "Jar.total" (defScope s_Jar_total) T.f_Jar_total cdv A' outer s0 H E) E := passes_call (takes_of rfl rfl rfl rfl) (fun _ _ _ _ h => h)
  have nd := sc_Jar_total.nd
  have hu65 := units65 hr
  exact (dss_one (ds_ret (de_cb (cd_sumA rfl) T.n_sum (da_cons (de_fld (de_var 0 (pv 0)) T.i_Jar.cl T.a_Jar_amounts) da_nil))))

theorem ok_Jar_counts (T : Txt A K mg) : FnOk P w K mg base (L2.CX P w) 1 T.f_Jar_counts T.fd_Jar_counts ["self"] (spD K (g_Jar_counts A)) := by

  refine def_ok (k := 0) T.F_Jar_counts sc_Jar_counts (fun cdv A' outer s0 H E hr => ?_)
  have px : Passes (L2.CX P w) (cxOf (L2.CX P w) P w K mg base ["self"] "Jar.counts" (defScope s_Jar_counts) T.f_Jar_counts cdv A' outer s0 H E) E := passes_call (takes_of rfl rfl rfl rfl) (fun _ _ _ _ h => h)
  have nd := sc_Jar_counts.nd
  have hu65 := units65 hr
  exact (dss_one (ds_ret (de_ct cd_list T.n_list (da_cons (de_fld (de_var 0 (pv 0)) T.i_Jar.cl T.a_Jar_amounts) da_nil))))

theorem ok_Jar_countsN1 (T : Txt A K mg) : FnOk P w K mg base (L2.CX P w) 1 T.f_Jar_counts T.fd_Jar_counts ["self"] (spD K (g_Jar_countsN1 A)) := by

  refine def_okN (k := 0) T.F_Jar_counts sc_Jar_counts (fun cdv A' outer s0 H E hr => ?_)
  have px : Passes (L2.CX P w) (cxOf (L2.CX P w) P w K mg base ["self"] "Jar.counts" (defScope s_Jar_counts) T.f_Jar_counts cdv A' outer s0 H E) E := passes_call (takes_of rfl rfl rfl rfl) (fun _ _ _ _ h => h)
  have nd := sc_Jar_counts.nd
  have hu65 := units65 hr
  exact (dss_one (ds_ret (de_ct cd_listN T.n_list (da_cons (de_fld (de_var 0 (pv 0)) T.i_Jar.cl T.a_Jar_amounts) da_nil))))

theorem ok_Jar_uubooluu (T : Txt A K mg) : FnOk P w K mg base (L2.CX P w) 1 T.f_Jar_uubooluu T.fd_Jar_uubooluu ["self"] (spD K (g_Jar_uubooluu A)) := by

  refine def_ok (k := 0) T.F_Jar_uubooluu sc_Jar_uubooluu (fun cdv A' outer s0 H E hr => ?_)
  have px : Passes (L2.CX P w) (cxOf (L2.CX P w) P w K mg base ["self"] "Jar.__bool__" (defScope s_Jar_uubooluu) T.f_Jar_uubooluu cdv A' outer s0 H E) E := passes_call (takes_of rfl rfl rfl rfl) (fun _ _ _ _ h => h)
  have nd := sc_Jar_uubooluu.nd
  have hu65 := units65 hr
  exact (dss_one (ds_ret (de_cb (cd_anyA rfl) T.n_any (da_cons (de_fld (de_var 0 (pv 0)) T.i_Jar.cl T.a_Jar_amounts) da_nil))))

theorem ok_Jar_uugetitemuu (T : Txt A K mg) : FnOk P w K mg base (L2.CX P w) 3 T.f_Jar_uugetitemuu T.fd_Jar_uugetitemuu ["self", "at"] (spD K (g_Jar_uugetitemuu A)) := by
  have G_is_colour := ok_is_colour (P := P) (w := w) (base := base) T
  refine def_ok (k := 2) T.F_Jar_uugetitemuu sc_Jar_uugetitemuu (fun cdv A' outer s0 H E hr => ?_)
  have px : Passes (L2.CX P w) (cxOf (L2.CX P w) P w K mg base ["self", "at"] "Jar.__getitem__" (defScope s_Jar_uugetitemuu) T.f_Jar_uugetitemuu cdv A' outer s0 H E) E := passes_call (takes_of rfl rfl rfl rfl) (fun _ _ _ _ h => h)
  have nd := sc_Jar_uugetitemuu.nd
  have hu65 := units65 hr
  exact (dss_cons (ds_if (dt_not (dt_tru (de_call G_is_colour (hr.mono (by decide)) T.m_is_colour T.F_is_colour.kp T.b_is_colour px (da_cons (de_var 1 (pv 1)) (da_cons (de_cb cd_len T.n_len (da_cons (de_fld (de_var 0 (pv 0)) T.i_Jar.cl T.a_Jar_amounts) da_nil)) da_nil))))) (dss_one ds_no) dss_nil) (dss_one (ds_ret (de_ix (de_fld (de_var 0 (pv 0)) T.i_Jar.cl T.a_Jar_amounts) (de_var 1 (pv 1)) (fun _ _ => rfl)))))

theorem ok_Jar_uucontainsuu (T : Txt A K mg) : FnOk P w K mg base (L2.CX P w) 3 T.f_Jar_uucontainsuu T.fd_Jar_uucontainsuu ["self", "x"] (spD K (g_Jar_uucontainsuu A)) := by
  have G_is_colour := ok_is_colour (P := P) (w := w) (base := base) T
  refine def_ok (k := 2) T.F_Jar_uucontainsuu sc_Jar_uucontainsuu (fun cdv A' outer s0 H E hr => ?_)
  have px : Passes (L2.CX P w) (cxOf (L2.CX P w) P w K mg base ["self", "x"] "Jar.__contains__" (defScope s_Jar_uucontainsuu) T.f_Jar_uucontainsuu cdv A' outer s0 H E) E := passes_call (takes_of rfl rfl rfl rfl) (fun _ _ _ _ h => h)
  have nd := sc_Jar_uucontainsuu.nd
  have hu65 := units65 hr
  exact (dss_one (ds_ret (de_and (de_call G_is_colour (hr.mono (by decide)) T.m_is_colour T.F_is_colour.kp T.b_is_colour px (da_cons (de_var 1 (pv 1)) (da_cons (de_cb cd_len T.n_len (da_cons (de_fld (de_var 0 (pv 0)) T.i_Jar.cl T.a_Jar_amounts) da_nil)) da_nil))) (de_one (de_cmp od_gt (de_ix (de_fld (de_var 0 (pv 0)) T.i_Jar.cl T.a_Jar_amounts) (de_var 1 (pv 1)) (fun _ _ => rfl)) de_int (nomark _))))))

theorem ok_ulaw_check (T : Txt A K mg) : FnOk P w K mg base (L2.CX P w) 5 T.f_ulaw_check T.fd_ulaw_check ["_law_jar", "_law_counts_here", "_law_size"] (spD K (g_ulaw_check A)) := by
  have G_Jar_size := ok_Jar_size (P := P) (w := w) (base := base) T
  have G_Jar_total := ok_Jar_total (P := P) (w := w) (base := base) T
  have G_Jar_counts := ok_Jar_counts (P := P) (w := w) (base := base) T
  have G_Jar_uubooluu := ok_Jar_uubooluu (P := P) (w := w) (base := base) T
  have G_Jar_colours := ok_Jar_colours (P := P) (w := w) (base := base) T
  have G_Jar_uugetitemuu := ok_Jar_uugetitemuu (P := P) (w := w) (base := base) T
  have G_Jar_uucontainsuu := ok_Jar_uucontainsuu (P := P) (w := w) (base := base) T
  refine def_ok (k := 4) T.F_ulaw_check sc_ulaw_check (fun cdv A' outer s0 H E hr => ?_)
  have px : Passes (L2.CX P w) (cxOf (L2.CX P w) P w K mg base ["_law_jar", "_law_counts_here", "_law_size", "_law_colour", "_law_value"] "_law_check" (defScope s_ulaw_check) T.f_ulaw_check cdv A' outer s0 H E) E := passes_call (takes_of rfl rfl rfl rfl) (fun _ _ _ _ h => h)
  have nd := sc_ulaw_check.nd
  have hu65 := units65 hr
  exact (dss_cons (ds_if (PW.pt (dw_or (dt_cmp (od_ne hr.units) (de_prop (de_var 0 (pv 0)) T.i_Jar.cl T.p_Jar_size G_Jar_size (hr.mono (by decide)) T.b_Jar_size) (de_var 2 (pv 2)) (nomark _)) (dw_or1 (dt_cmp (od_ne hr.units) (de_prop (de_var 0 (pv 0)) T.i_Jar.cl T.p_Jar_total G_Jar_total (hr.mono (by decide)) T.b_Jar_total) (de_cb (cd_sumA rfl) T.n_sum (da_cons (de_var 1 (pv 1)) da_nil)) (nomark _))))) (dss_one (ds_ret de_bl)) dss_nil) (dss_cons (ds_if (PW.pt (dw_or (dt_cmp (od_ne hr.units) (de_meth0 (de_var 0 (pv 0)) T.i_Jar.cl T.h_Jar_counts G_Jar_counts (hr.mono (by decide)) T.b_Jar_counts px) (de_var 1 (pv 1)) (nomark _)) (dw_or1 (dt_cmp (od_ne hr.units) (de_ct (cd_boolO T.s_Jar_bool T.f_Jar_bool G_Jar_uubooluu (hr.mono (by decide)) T.b_Jar_uubooluu px) T.n_bool (da_cons (de_var 0 (pv 0)) da_nil)) (de_cmp od_gt (de_cb (cd_sumA rfl) T.n_sum (da_cons (de_var 1 (pv 1)) da_nil)) de_int (nomark _)) (nomark _))))) (dss_one (ds_ret de_bl)) dss_nil) (dss_cons (ds_if (dt_cmp (od_ne hr.units) (de_meth0 (de_var 0 (pv 0)) T.i_Jar.cl T.h_Jar_colours G_Jar_colours (hr.mono (by decide)) T.b_Jar_colours px) (de_lc (own := [("_law_colour", 3)]) rfl nd (di_range1 (by rfl) T.n_range (da_cons (de_var 2 (pv 2)) da_nil)) (blkOk_by (by rfl)) (cg_name (i := 3) (by decide)) (fun _ _ _ _ _ => pg_name (i := 3) nd rfl (Or.inl rfl)) (fun _ _ _ _ _ => dts_one (dt_cmp od_gt (de_ix (de_var 1 (pv 1)) (de_var 3 (pv 3)) (fun _ _ => rfl)) de_int (nomark _))) (fun _ _ _ _ _ => (de_var 3 (pv 3)))) (nomark _)) (dss_one (ds_ret de_bl)) dss_nil) (dss_cons (ds_for (passes_of rfl) rfl (di_range1 (by rfl) T.n_range (da_cons (de_var 2 (pv 2)) da_nil)) (dg_name (pg_name (i := 3) nd rfl (Or.inl rfl))) (dss_scope (drop := []) (dss_cons (ds_if (dt_cmp (od_ne hr.units) (de_subO (de_var 0 (pv 0)) (de_var 3 (pv 3)) T.s_Jar_getitem T.n_Jar_getitem T.f_Jar_getitem G_Jar_uugetitemuu (hr.mono (by decide)) T.b_Jar_uugetitemuu px) (de_ix (de_var 1 (pv 1)) (de_var 3 (pv 3)) (fun _ _ => rfl)) (nomark _)) (dss_one (ds_ret de_bl)) dss_nil) (dss_one (ds_if (dt_cmp (od_ne hr.units) (de_cmp (od_inO T.s_Jar_contains T.f_Jar_contains G_Jar_uucontainsuu (hr.mono (by decide)) T.b_Jar_uucontainsuu px) (de_var 3 (pv 3)) (de_var 0 (pv 0)) (by rfl)) (de_cmp od_gt (de_ix (de_var 1 (pv 1)) (de_var 3 (pv 3)) (fun _ _ => rfl)) de_int (nomark _)) (nomark _)) (dss_one (ds_ret de_bl)) dss_nil))))) (dss_cons (ds_for (passes_of rfl) rfl (di_seq (de_lst (da_cons de_non (da_cons (de_neg de_int) (da_cons (de_var 2 (pv 2)) (da_cons de_bl (da_cons de_str (da_cons (de_tup (da_cons de_int da_nil)) (da_cons (de_lst (da_cons de_int da_nil)) (da_cons de_dct0 da_nil)))))))))) (dg_name (pg_name (i := 4) nd rfl (Or.inl rfl))) (dss_scope (drop := [4]) (dss_one (ds_if (dt_cmp od_nis (de_cmp (od_inO T.s_Jar_contains T.f_Jar_contains G_Jar_uucontainsuu (hr.mono (by decide)) T.b_Jar_uucontainsuu px) (de_var 4 (pv 4)) (de_var 0 (pv 0)) (by rfl)) de_bl (nomark _)) (dss_one (ds_ret de_bl)) dss_nil)))) (dss_one (ds_ret de_bl)))))))

theorem ok_need_same_size (T : Txt A K mg) : FnOk P w K mg base (L2.CX P w) 3 T.f_need_same_size T.fd_need_same_size ["one", "other"] (spD K (g_need_same_size A)) := by
  have G_Jar_size := ok_Jar_size (P := P) (w := w) (base := base) T
  refine def_ok (k := 2) T.F_need_same_size sc_need_same_size (fun cdv A' outer s0 H E hr => ?_)
  have px : Passes (L2.CX P w) (cxOf (L2.CX P w) P w K mg base ["one", "other"] "need_same_size" (defScope s_need_same_size) T.f_need_same_size cdv A' outer s0 H E) E := passes_call (takes_of rfl rfl rfl rfl) (fun _ _ _ _ h => h)
  have nd := sc_need_same_size.nd
  have hu65 := units65 hr
  exact (dss_one (ds_if (dt_cmp (od_ne hr.units) (de_prop (de_var 0 (pv 0)) T.i_Jar.cl T.p_Jar_size G_Jar_size (hr.mono (by decide)) T.b_Jar_size) (de_prop (de_var 1 (pv 1)) T.i_Jar.cl T.p_Jar_size G_Jar_size (hr.mono (by decide)) T.b_Jar_size) (nomark _)) (dss_one ds_no) dss_nil))

theorem ok_Jar_uuadduu (T : Txt A K mg) : FnOk P w K mg base (L2.CX P w) 5 T.f_Jar_uuadduu T.fd_Jar_uuadduu ["self", "other"] (spD K (g_Jar_uuadduu A)) := by
  have G_need_same_size := ok_need_same_size (P := P) (w := w) (base := base) T
  have G_Jar_uuinituu := ok_Jar_uuinituu (P := P) (w := w) (base := base) T
  refine def_ok (k := 4) T.F_Jar_uuadduu sc_Jar_uuadduu (fun cdv A' outer s0 H E hr => ?_)
  have px : Passes (L2.CX P w) (cxOf (L2.CX P w) P w K mg base ["self", "other", "one", "more"] "Jar.__add__" (defScope s_Jar_uuadduu) T.f_Jar_uuadduu cdv A' outer s0 H E) E := passes_call (takes_of rfl rfl rfl rfl) (fun _ _ _ _ h => h)
  have nd := sc_Jar_uuadduu.nd
  have hu65 := units65 hr
  exact (dss_cons (ds_if (dt_not (dt_tru (de_isi T.n_isinstance (de_var 1 (pv 1)) (pe_glob (v := .ref A.C_Jar) rfl T.g_Jar rfl) (.own _) (anO_ok T.i_Jar T.y_Jar T.z_Jar)))) (dss_one ds_no) dss_nil) (dss_cons (ds_expr (de_call G_need_same_size (hr.mono (by decide)) T.m_need_same_size T.F_need_same_size.kp T.b_need_same_size px (da_cons (de_var 0 (pv 0)) (da_cons (de_var 1 (pv 1)) da_nil)))) (dss_one (ds_ret (de_make T.mk_Jar G_Jar_uuinituu (hr.mono (by decide)) T.g_Jar T.b_Jar_uuinituu px (da_cons (de_lc (own := [("one", 2), ("more", 3)]) rfl nd (di_zipA rfl T.n_zip (da_cons (de_fld (de_var 0 (pv 0)) T.i_Jar.cl T.a_Jar_amounts) (da_cons (de_fld (de_var 1 (pv 1)) T.i_Jar.cl T.a_Jar_amounts) da_nil))) (blkOk_by (by rfl)) (cg_pair (i := 2) (j := 3) (by decide) (by decide)) (fun _ _ _ _ _ => pg_tup rfl (pgs_cons (pg_name (i := 2) nd rfl (Or.inl rfl)) (pgs_cons (pg_name (i := 3) nd rfl (Or.inl rfl)) pgs_nil))) (fun _ _ _ _ _ => dts_nil) (fun _ _ _ _ _ => (de_op od_add (de_var 2 (pv 2)) (de_var 3 (pv 3))))) da_nil))))))

theorem ok_Jar_uusubuu (T : Txt A K mg) : FnOk P w K mg base (L2.CX P w) 5 T.f_Jar_uusubuu T.fd_Jar_uusubuu ["self", "other"] (spD K (g_Jar_uusubuu A)) := by
  have G_need_same_size := ok_need_same_size (P := P) (w := w) (base := base) T
  have G_Jar_uuinituu := ok_Jar_uuinituu (P := P) (w := w) (base := base) T
  refine def_ok (k := 4) T.F_Jar_uusubuu sc_Jar_uusubuu (fun cdv A' outer s0 H E hr => ?_)
  have px : Passes (L2.CX P w) (cxOf (L2.CX P w) P w K mg base ["self", "other", "colour", "count", "one", "less"] "Jar.__sub__" (defScope s_Jar_uusubuu) T.f_Jar_uusubuu cdv A' outer s0 H E) E := passes_call (takes_of rfl rfl rfl rfl) (fun _ _ _ _ h => h)
  have nd := sc_Jar_uusubuu.nd
  have hu65 := units65 hr
  exact (dss_cons (ds_if (dt_not (dt_tru (de_isi T.n_isinstance (de_var 1 (pv 1)) (pe_glob (v := .ref A.C_Jar) rfl T.g_Jar rfl) (.own _) (anO_ok T.i_Jar T.y_Jar T.z_Jar)))) (dss_one ds_no) dss_nil) (dss_cons (ds_expr (de_call G_need_same_size (hr.mono (by decide)) T.m_need_same_size T.F_need_same_size.kp T.b_need_same_size px (da_cons (de_var 0 (pv 0)) (da_cons (de_var 1 (pv 1)) da_nil)))) (dss_cons (ds_for (passes_of rfl) rfl (di_enumA rfl T.n_enumerate (da_cons (de_fld (de_var 0 (pv 0)) T.i_Jar.cl T.a_Jar_amounts) da_nil)) (dg_tup rfl (dgs_cons (dg_name (pg_name (i := 2) nd rfl (Or.inl rfl))) (dgs_cons (dg_name (pg_name (i := 3) nd rfl (Or.inl rfl))) dgs_nil))) (dss_scope (drop := [2, 3]) (dss_one (ds_if (dt_cmp od_lt (de_var 3 (pv 3)) (de_ix (de_fld (de_var 1 (pv 1)) T.i_Jar.cl T.a_Jar_amounts) (de_var 2 (pv 2)) (fun _ _ => rfl)) (nomark _)) (dss_one ds_no) dss_nil)))) (dss_one (ds_ret (de_make T.mk_Jar G_Jar_uuinituu (hr.mono (by decide)) T.g_Jar T.b_Jar_uuinituu px (da_cons (de_lc (own := [("one", 4), ("less", 5)]) rfl nd (di_zipA rfl T.n_zip (da_cons (de_fld (de_var 0 (pv 0)) T.i_Jar.cl T.a_Jar_amounts) (da_cons (de_fld (de_var 1 (pv 1)) T.i_Jar.cl T.a_Jar_amounts) da_nil))) (blkOk_by (by rfl)) (cg_pair (i := 4) (j := 5) (by decide) (by decide)) (fun _ _ _ _ _ => pg_tup rfl (pgs_cons (pg_name (i := 4) nd rfl (Or.inl rfl)) (pgs_cons (pg_name (i := 5) nd rfl (Or.inl rfl)) pgs_nil))) (fun _ _ _ _ _ => dts_nil) (fun _ _ _ _ _ => (de_op od_sub (de_var 4 (pv 4)) (de_var 5 (pv 5))))) da_nil)))))))

theorem ok_Jar_uumuluu (T : Txt A K mg) : FnOk P w K mg base (L2.CX P w) 5 T.f_Jar_uumuluu T.fd_Jar_uumuluu ["self", "other"] (spD K (g_Jar_uumuluu A)) := by
  have G_is_count := ok_is_count (P := P) (w := w) (base := base) T
  have G_Jar_uuinituu := ok_Jar_uuinituu (P := P) (w := w) (base := base) T
  refine def_ok (k := 4) T.F_Jar_uumuluu sc_Jar_uumuluu (fun cdv A' outer s0 H E hr => ?_)
  have px : Passes (L2.CX P w) (cxOf (L2.CX P w) P w K mg base ["self", "other", "count"] "Jar.__mul__" (defScope s_Jar_uumuluu) T.f_Jar_uumuluu cdv A' outer s0 H E) E := passes_call (takes_of rfl rfl rfl rfl) (fun _ _ _ _ h => h)
  have nd := sc_Jar_uumuluu.nd
  have hu65 := units65 hr
  exact (dss_cons (ds_if (dt_not (dt_tru (de_call G_is_count (hr.mono (by decide)) T.m_is_count T.F_is_count.kp T.b_is_count px (da_cons (de_var 1 (pv 1)) da_nil)))) (dss_one ds_no) dss_nil) (dss_one (ds_ret (de_make T.mk_Jar G_Jar_uuinituu (hr.mono (by decide)) T.g_Jar T.b_Jar_uuinituu px (da_cons (de_lc (own := [("count", 2)]) rfl nd (di_seq (de_fld (de_var 0 (pv 0)) T.i_Jar.cl T.a_Jar_amounts)) (blkOk_by (by rfl)) (cg_name (i := 2) (by decide)) (fun _ _ _ _ _ => pg_name (i := 2) nd rfl (Or.inl rfl)) (fun _ _ _ _ _ => dts_nil) (fun _ _ _ _ _ => (de_op od_mul (de_var 2 (pv 2)) (de_var 1 (pv 1))))) da_nil)))))

theorem ok_law (T : Txt A K mg) : FnOk P w K mg base (L2.CX P w) 6 T.f_law T.fd_law ["_law_script"] (spD K (g_law A)) := by
  have G_ulaw_poolN1 := ok_ulaw_poolN1 (P := P) (w := w) (base := base) T
  have G_ulaw_draw := ok_ulaw_draw (P := P) (w := w) (base := base) T
  have G_ulaw_counts := ok_ulaw_counts (P := P) (w := w) (base := base) T
  have G_Jar_uuinituu := ok_Jar_uuinituu (P := P) (w := w) (base := base) T
  have G_Jar_countsN1 := ok_Jar_countsN1 (P := P) (w := w) (base := base) T
  have G_Jar_coloursN1 := ok_Jar_coloursN1 (P := P) (w := w) (base := base) T
  have G_ulaw_check := ok_ulaw_check (P := P) (w := w) (base := base) T
  have G_Jar_counts := ok_Jar_counts (P := P) (w := w) (base := base) T
  have G_Jar_uuadduu := ok_Jar_uuadduu (P := P) (w := w) (base := base) T
  have G_Jar_uuequu := ok_Jar_uuequu (P := P) (w := w) (base := base) T
  have G_Jar_uusubuu := ok_Jar_uusubuu (P := P) (w := w) (base := base) T
  have G_Jar_uumuluu := ok_Jar_uumuluu (P := P) (w := w) (base := base) T
  have G_ulaw_beans := ok_ulaw_beans (P := P) (w := w) (base := base) T
  have G_Jar_of_beans := ok_Jar_of_beans (P := P) (w := w) (base := base) T
  refine def_ok (k := 5) T.F_law sc_law (fun cdv A' outer s0 H E hr => ?_)
  have px : Passes (L2.CX P w) (cxOf (L2.CX P w) P w K mg base ["_law_script", "_law_k", "_law_pool_here", "_law_size", "_law_counts_here", "_law_more", "_law_number", "_law_given", "_law_jar", "_law_other", "_law_beans_here", "_law_small", "_law_value", "_law_at", "_law_count"] "law" (defScope s_law) T.f_law cdv A' outer s0 H E) E := passes_call (takes_of rfl rfl rfl rfl) (fun _ _ _ _ h => h)
  have nd := sc_law.nd
  have hu65 := units65 hr
  exact (dss_cons (ds_for (passes_of rfl) rfl (di_range1 (by rfl) T.n_range (da_cons (de_cb (cd_max2 rfl) T.n_max (da_cons de_int (da_cons (de_cb (cd_min2 rfl) T.n_min (da_cons (de_cb cd_len T.n_len (da_cons (de_var 0 (pv 0)) da_nil)) (da_cons de_int da_nil))) da_nil))) da_nil)) (dg_name (pg_name (i := 1) nd rfl (Or.inl rfl))) (dss_scope (drop := [1, 2, 3, 4, 5, 6, 7, 8, 9, 10, 11, 12, 13, 14]) (dss_cons (ds_set (de_call G_ulaw_poolN1 (hr.mono (by decide)) T.m_ulaw_pool T.F_ulaw_pool.kp T.b_ulaw_pool px (da_cons (de_var 0 (pv 0)) (da_cons (de_var 1 (pv 1)) da_nil))) (fun h => ps_set (i := 2) nd rfl (Or.inl rfl) h)) (dss_cons (ds_set (de_op od_add de_int (de_call G_ulaw_draw (hr.mono (by decide)) T.m_ulaw_draw T.F_ulaw_draw.kp T.b_ulaw_draw px (da_cons (de_var 2 (pv 2)) (da_cons de_int da_nil)))) (fun h => ps_set (i := 3) nd rfl (Or.inl rfl) h)) (dss_cons (ds_asg (de_tup (da_cons (de_call G_ulaw_counts (hr.mono (by decide)) T.m_ulaw_counts T.F_ulaw_counts.kp T.b_ulaw_counts px (da_cons (de_var 2 (pv 2)) (da_cons (de_var 3 (pv 3)) da_nil))) (da_cons (de_call G_ulaw_counts (hr.mono (by decide)) T.m_ulaw_counts T.F_ulaw_counts.kp T.b_ulaw_counts px (da_cons (de_var 2 (pv 2)) (da_cons (de_var 3 (pv 3)) da_nil))) (da_cons (de_call G_ulaw_draw (hr.mono (by decide)) T.m_ulaw_draw T.F_ulaw_draw.kp T.b_ulaw_draw px (da_cons (de_var 2 (pv 2)) (da_cons de_int da_nil))) da_nil)))) (dg_tup rfl (dgs_cons (dg_name (pg_name (i := 4) nd rfl (Or.inr rfl))) (dgs_cons (dg_name (pg_name (i := 5) nd rfl (Or.inr rfl))) (dgs_cons (dg_name (pg_name (i := 6) nd rfl (Or.inr rfl))) dgs_nil))))) (dss_cons (ds_set (de_ct cd_listN T.n_list (da_cons (de_var 4 (pv 4)) da_nil)) (fun h => ps_set (i := 7) nd rfl (Or.inl rfl) h)) (dss_cons (ds_set (de_makeF T.mk_Jar G_Jar_uuinituu (hr.mono (by decide)) T.g_Jar T.b_Jar_uuinituu px (da_cons (de_if (dt_cmp (od_eq hr.units) (de_call G_ulaw_draw (hr.mono (by decide)) T.m_ulaw_draw T.F_ulaw_draw.kp T.b_ulaw_draw px (da_cons (de_var 2 (pv 2)) (da_cons de_int da_nil))) de_int (nomark _)) (de_var 7 (pv 7)) (de_ct cd_tuple T.n_tuple (da_cons (de_var 7 (pv 7)) da_nil))) da_nil)) (fun h => ps_set (i := 8) nd rfl (Or.inl rfl) h)) (dss_cons (ds_asg de_int (dg_sub (de_var 7 (pv 7)) de_int)) (dss_cons (ds_expr (de_append (de_meth0 (de_var 8 (pv 8)) T.i_Jar.cl T.h_Jar_counts G_Jar_countsN1 (hr.mono (by decide)) T.b_Jar_counts px) de_non)) (dss_cons (ds_expr (de_append (de_meth0 (de_var 8 (pv 8)) T.i_Jar.cl T.h_Jar_colours G_Jar_coloursN1 (hr.mono (by decide)) T.b_Jar_colours px) de_non)) (dss_cons (ds_if (dt_not (dt_tru (de_call G_ulaw_check (hr.mono (by decide)) T.m_ulaw_check T.F_ulaw_check.kp T.b_ulaw_check px (da_cons (de_var 8 (pv 8)) (da_cons (de_var 4 (pv 4)) (da_cons (de_var 3 (pv 3)) da_nil)))))) (dss_one (ds_ret de_bl)) dss_nil) (dss_cons (ds_set (de_make T.mk_Jar G_Jar_uuinituu (hr.mono (by decide)) T.g_Jar T.b_Jar_uuinituu px (da_cons (de_var 5 (pv 5)) da_nil)) (fun h => ps_set (i := 9) nd rfl (Or.inl rfl) h)) (dss_cons (ds_if (dt_cmp (od_ne hr.units) (de_meth0 (de_op (od_binO (nm := "__add__") (by decide +kernel) T.s_Jar_add T.f_Jar_add T.e_Jar_add T.i_Jar G_Jar_uuadduu (hr.mono (by decide)) T.b_Jar_uuadduu px) (de_var 8 (pv 8)) (de_var 9 (pv 9))) T.i_Jar.cl T.h_Jar_counts G_Jar_counts (hr.mono (by decide)) T.b_Jar_counts px) (de_lc (own := [("_law_at", 13)]) rfl nd (di_range1 (by rfl) T.n_range (da_cons (de_var 3 (pv 3)) da_nil)) (blkOk_by (by rfl)) (cg_name (i := 13) (by decide)) (fun _ _ _ _ _ => pg_name (i := 13) nd rfl (Or.inl rfl)) (fun _ _ _ _ _ => dts_nil) (fun _ _ _ _ _ => (de_op od_add (de_ix (de_var 4 (pv 4)) (de_var 13 (pv 13)) (fun _ _ => rfl)) (de_ix (de_var 5 (pv 5)) (de_var 13 (pv 13)) (fun _ _ => rfl))))) (nomark _)) (dss_one (ds_ret de_bl)) dss_nil) (dss_cons (ds_if (dt_cmp (od_neO T.s_Jar_eq T.f_Jar_eq T.x_Jar_ne T.i_Jar.hm T.k_Jar G_Jar_uuequu (hr.mono (by decide)) T.b_Jar_uuequu px) (de_op (od_binO (nm := "__add__") (by decide +kernel) T.s_Jar_add T.f_Jar_add T.e_Jar_add T.i_Jar G_Jar_uuadduu (hr.mono (by decide)) T.b_Jar_uuadduu px) (de_var 8 (pv 8)) (de_var 9 (pv 9))) (de_op (od_binO (nm := "__add__") (by decide +kernel) T.s_Jar_add T.f_Jar_add T.e_Jar_add T.i_Jar G_Jar_uuadduu (hr.mono (by decide)) T.b_Jar_uuadduu px) (de_var 9 (pv 9)) (de_var 8 (pv 8))) (nomark _)) (dss_one (ds_ret de_bl)) dss_nil) (dss_cons (ds_if (dt_cmp (od_neO T.s_Jar_eq T.f_Jar_eq T.x_Jar_ne T.i_Jar.hm T.k_Jar G_Jar_uuequu (hr.mono (by decide)) T.b_Jar_uuequu px) (de_op (od_binO (nm := "__sub__") (by decide +kernel) T.s_Jar_sub T.f_Jar_sub T.e_Jar_sub T.i_Jar G_Jar_uusubuu (hr.mono (by decide)) T.b_Jar_uusubuu px) (de_op (od_binO (nm := "__add__") (by decide +kernel) T.s_Jar_add T.f_Jar_add T.e_Jar_add T.i_Jar G_Jar_uuadduu (hr.mono (by decide)) T.b_Jar_uuadduu px) (de_var 8 (pv 8)) (de_var 9 (pv 9))) (de_var 9 (pv 9))) (de_var 8 (pv 8)) (nomark _)) (dss_one (ds_ret de_bl)) dss_nil) (dss_cons (ds_if (dt_cmp (od_ne hr.units) (de_meth0 (de_op (od_binI T.s_Jar_mul T.f_Jar_mul T.e_Jar_mul T.ri_Jar_mul T.ti_Jar_mul T.tr_Jar_mul T.ui_Jar G_Jar_uumuluu (hr.mono (by decide)) T.b_Jar_uumuluu px) (de_var 8 (pv 8)) (de_var 6 (pv 6))) T.i_Jar.cl T.h_Jar_counts G_Jar_counts (hr.mono (by decide)) T.b_Jar_counts px) (de_lc (own := [("_law_count", 14)]) rfl nd (di_seq (de_var 4 (pv 4))) (blkOk_by (by rfl)) (cg_name (i := 14) (by decide)) (fun _ _ _ _ _ => pg_name (i := 14) nd rfl (Or.inl rfl)) (fun _ _ _ _ _ => dts_nil) (fun _ _ _ _ _ => (de_op od_mul (de_var 14 (pv 14)) (de_var 6 (pv 6))))) (nomark _)) (dss_one (ds_ret de_bl)) dss_nil) (dss_cons (ds_if (PW.pt (dw_or (dt_not (dt_tru (de_call G_ulaw_check (hr.mono (by decide)) T.m_ulaw_check T.F_ulaw_check.kp T.b_ulaw_check px (da_cons (de_var 8 (pv 8)) (da_cons (de_var 4 (pv 4)) (da_cons (de_var 3 (pv 3)) da_nil)))))) (dw_or1 (dt_cmp (od_ne hr.units) (de_meth0 (de_var 9 (pv 9)) T.i_Jar.cl T.h_Jar_counts G_Jar_counts (hr.mono (by decide)) T.b_Jar_counts px) (de_var 5 (pv 5)) (nomark _))))) (dss_one (ds_ret de_bl)) dss_nil) (dss_cons (ds_if (PW.pt (dw_or (dt_cmp (od_neO T.s_Jar_eq T.f_Jar_eq T.x_Jar_ne T.i_Jar.hm T.k_Jar G_Jar_uuequu (hr.mono (by decide)) T.b_Jar_uuequu px) (de_op (od_binI T.s_Jar_mul T.f_Jar_mul T.e_Jar_mul T.ri_Jar_mul T.ti_Jar_mul T.tr_Jar_mul T.ui_Jar G_Jar_uumuluu (hr.mono (by decide)) T.b_Jar_uumuluu px) (de_var 8 (pv 8)) de_int) (de_make T.mk_Jar G_Jar_uuinituu (hr.mono (by decide)) T.g_Jar T.b_Jar_uuinituu px (da_cons (de_op od_mul (de_lst (da_cons de_int da_nil)) (de_var 3 (pv 3))) da_nil)) (nomark _)) (dw_or1 (dt_cmp (od_neO T.s_Jar_eq T.f_Jar_eq T.x_Jar_ne T.i_Jar.hm T.k_Jar G_Jar_uuequu (hr.mono (by decide)) T.b_Jar_uuequu px) (de_op (od_binO (nm := "__sub__") (by decide +kernel) T.s_Jar_sub T.f_Jar_sub T.e_Jar_sub T.i_Jar G_Jar_uusubuu (hr.mono (by decide)) T.b_Jar_uusubuu px) (de_var 8 (pv 8)) (de_var 8 (pv 8))) (de_op (od_binI T.s_Jar_mul T.f_Jar_mul T.e_Jar_mul T.ri_Jar_mul T.ti_Jar_mul T.tr_Jar_mul T.ui_Jar G_Jar_uumuluu (hr.mono (by decide)) T.b_Jar_uumuluu px) (de_var 8 (pv 8)) de_int) (nomark _))))) (dss_one (ds_ret de_bl)) dss_nil) (dss_cons (ds_set (de_call G_ulaw_beans (hr.mono (by decide)) T.m_ulaw_beans T.F_ulaw_beans.kp T.b_ulaw_beans px (da_cons (de_var 4 (pv 4)) da_nil)) (fun h => ps_set (i := 10) nd rfl (Or.inl rfl) h)) (dss_cons (ds_set (de_cm T.g_Jar rfl T.r_Jar T.h_Jar_of_beans G_Jar_of_beans (hr.mono (by decide)) T.b_Jar_of_beans px (da_cons (de_var 3 (pv 3)) (da_cons (de_if (dt_cmp (od_eq hr.units) (de_op od_mod (de_var 6 (pv 6)) de_int) de_int (nomark _)) (de_var 10 (pv 10)) (de_ct cd_tuple T.n_tuple (da_cons (de_var 10 (pv 10)) da_nil))) da_nil))) (fun h => ps_set (i := 11) nd rfl (Or.inl rfl) h)) (dss_cons (ds_if (dt_cmp (od_ne hr.units) (de_meth0 (de_var 11 (pv 11)) T.i_Jar.cl T.h_Jar_counts G_Jar_counts (hr.mono (by decide)) T.b_Jar_counts px) (de_lc (own := [("_law_count", 14)]) rfl nd (di_seq (de_var 4 (pv 4))) (blkOk_by (by rfl)) (cg_name (i := 14) (by decide)) (fun _ _ _ _ _ => pg_name (i := 14) nd rfl (Or.inl rfl)) (fun _ _ _ _ _ => dts_nil) (fun _ _ _ _ _ => (de_op od_mod (de_var 14 (pv 14)) de_int))) (nomark _)) (dss_one (ds_ret de_bl)) dss_nil) (dss_cons (ds_if (dt_cmp (od_ne hr.units) (de_cmp (od_eqO hr.units0 T.s_Jar_eq T.f_Jar_eq T.k_Jar G_Jar_uuequu (hr.mono (by decide)) T.b_Jar_uuequu px) (de_var 8 (pv 8)) (de_var 9 (pv 9)) (nomark _)) (de_cmp (od_eq hr.units) (de_var 4 (pv 4)) (de_var 5 (pv 5)) (nomark _)) (nomark _)) (dss_one (ds_ret de_bl)) dss_nil) (dss_one (ds_for (passes_of rfl) rfl (di_seq (de_lst (da_cons de_non (da_cons de_int (da_cons (de_var 4 (pv 4)) (da_cons (de_ct cd_tuple T.n_tuple (da_cons (de_var 4 (pv 4)) da_nil)) (da_cons (de_lst (da_cons (de_var 8 (pv 8)) da_nil)) (da_cons de_str da_nil)))))))) (dg_name (pg_name (i := 12) nd rfl (Or.inl rfl))) (dss_scope (drop := [12]) (dss_one (ds_if (PW.pt (dw_or (dt_cmp od_nis (de_cmp (od_eqO hr.units0 T.s_Jar_eq T.f_Jar_eq T.k_Jar G_Jar_uuequu (hr.mono (by decide)) T.b_Jar_uuequu px) (de_var 8 (pv 8)) (de_var 12 (pv 12)) (nomark _)) de_bl (nomark _)) (dw_or1 (dt_cmp od_nis (de_cmp (od_neO T.s_Jar_eq T.f_Jar_eq T.x_Jar_ne T.i_Jar.hm T.k_Jar G_Jar_uuequu (hr.mono (by decide)) T.b_Jar_uuequu px) (de_var 8 (pv 8)) (de_var 12 (pv 12)) (nomark _)) de_bl (nomark _))))) (dss_one (ds_ret de_bl)) dss_nil))))))))))))))))))))))))))) (dss_one (ds_ret de_bl)))

end
end Law
end
section
namespace Law
open PySem PySem.Spec PyProof.Rows L2 DL
section
variable {A : As} {st : Sto} {δ : En}
abbrev intsD (n : Nat) (c : Nat → Int) : D := .lst (mapR n fun i => .int (c i))
abbrev tupsD (n : Nat) (c : Nat → Int) : D := .tup (mapR n fun i => .int (c i))
theorem below_ints {k n : Nat} {c : Nat → Int} : belowD k (intsD n c) = true := by simp only [unsetAll, belowE, List.set_cons_succ, List.set_cons_zero, List.all_cons, List.all_nil, belowO_some, belowO_none, belowD_G, belowD, belowDs, belowFs, belowC, belowDs_mapR, belowDs_map', belowDs_app', Bool.and_true, Bool.and_self, Bool.true_and, all_true', List.length_nil, List.length_cons, List.length_append, Nat.reduceAdd, Nat.reduceLT, decide_true, Nat.zero_lt_succ, Nat.lt_add_one, and_true, true_and]
theorem below_tups {k n : Nat} {c : Nat → Int} : belowD k (tupsD n c) = true := by simp only [unsetAll, belowE, List.set_cons_succ, List.set_cons_zero, List.all_cons, List.all_nil, belowO_some, belowO_none, belowD_G, belowD, belowDs, belowFs, belowC, belowDs_mapR, belowDs_map', belowDs_app', Bool.and_true, Bool.and_self, Bool.true_and, all_true', List.length_nil, List.length_cons, List.length_append, Nat.reduceAdd, Nat.reduceLT, decide_true, Nat.zero_lt_succ, Nat.lt_add_one, and_true, true_and]
abbrev lstN (l : List Nat) : D := .lst (l.map fun x => D.int (x : Nat))
abbrev tupN (l : List Nat) : D := .tup (l.map fun x => D.int (x : Nat))
theorem below_lstN {k : Nat} {l : List Nat} : belowD k (lstN l) = true := by simp only [unsetAll, belowE, List.set_cons_succ, List.set_cons_zero, List.all_cons, List.all_nil, belowO_some, belowO_none, belowD_G, belowD, belowDs, belowFs, belowC, belowDs_mapR, belowDs_map', belowDs_app', Bool.and_true, Bool.and_self, Bool.true_and, all_true', List.length_nil, List.length_cons, List.length_append, Nat.reduceAdd, Nat.reduceLT, decide_true, Nat.zero_lt_succ, Nat.lt_add_one, and_true, true_and]
theorem below_tupN {k : Nat} {l : List Nat} : belowD k (tupN l) = true := by simp only [unsetAll, belowE, List.set_cons_succ, List.set_cons_zero, List.all_cons, List.all_nil, belowO_some, belowO_none, belowD_G, belowD, belowDs, belowFs, belowC, belowDs_mapR, belowDs_map', belowDs_app', Bool.and_true, Bool.and_self, Bool.true_and, all_true', List.length_nil, List.length_cons, List.length_append, Nat.reduceAdd, Nat.reduceLT, decide_true, Nat.zero_lt_succ, Nat.lt_add_one, and_true, true_and]
/-! ### what the arguments are -/
theorem is_int_i {i : Int} {P : D → Sto → Prop} : W (g_is_integer A [.int i]) st P = P (.bl true) st := callE rfl (by unfold b_is_integer; simp only [w_bind, w_pure, w_var, w_c, w_op2, w_nil, w_cons, w_tup, w_lst, w_newL, w_sub, w_add, w_mod, w_divE, w_powE, w_mulE, w_cmp, w_bD, w_eB, w_eTru, w_truB, w_ch, w_tand, w_tor, w_tnot, w_and, w_or, w_not, DL.w_next, w_ret, w_sif, w_expr, w_gN, w_asg, w_eCall, w_seq, goOn_nx, goOn_rt, w_lc, w_lcN, w_iR1, w_iR2, w_iSq, w_seqL, w_seqT, w_lenT, w_lenL, w_lenF, w_max, w_min, w_gSub, w_for, w_isi, w_if, w_tupleL, w_tupleT, w_listL, w_listT, w_listNT, w_listNL, w_neg, w_negI, w_eListR1, w_iZpA, w_iZp3A, w_iEnA, w_zpTT, w_zpTL, w_zpLT, w_zpLL, w_enAL, w_enAT, w_isN, w_isT, w_nisT, w_isB, w_nisB, w_isI, w_nisI, w_isL, w_nisL, w_gT2, w_gT3, w_intB, w_intI, w_eMake, w_fld1, w_prop1, w_meth1, w_sub1, w_or2a1, w_own, w_inO, w_eIf, w_eqI, w_neI, w_eqB, w_neB, isi_int_int, isi_int_bl, isi_int_non, isi_int_str, isi_int_lst, isi_int_tup, isi_int_dct, isi_bool_int, isi_bool_bl, isi_bool_non, isi_bool_str, isi_bool_lst, isi_bool_tup, isi_bool_dct, isi_str_int, isi_str_bl, isi_str_non, isi_str_str, isi_str_lst, isi_str_tup, isi_str_dct, isi_list_int, isi_list_bl, isi_list_non, isi_list_str, isi_list_lst, isi_list_tup, isi_list_dct, isi_tuple_int, isi_tuple_bl, isi_tuple_non, isi_tuple_str, isi_tuple_lst, isi_tuple_tup, isi_tuple_dct, isi_dict_int, isi_dict_bl, isi_dict_non, isi_dict_str, isi_dict_lst, isi_dict_tup, isi_dict_dct, isi_lt_int, isi_o_int, isi_lt_bl, isi_o_bl, isi_lt_non, isi_o_non, isi_lt_str, isi_o_str, isi_lt_lst, isi_o_lst, isi_lt_tup, isi_o_tup, isi_lt_dct, isi_o_dct, isi_own, mapR_len, rngD_length, enumD_mapR, zip_mapR, zip3_mapR, rng0, rngA, List.length_map, startD, wipeD, List.map_cons, List.map_nil, List.length_cons, List.length_nil, List.replicate, List.cons_append, List.nil_append, List.append_nil, List.getElem?_cons_zero, List.getElem?_cons_succ, List.set_cons_succ, List.set_cons_zero, Bool.not_true, Bool.not_false, if_true, if_false, Bool.false_eq_true, decide_true, decide_false, true_and, and_true, and_self, and_imp, Int.zero_add, le2, le3, le4, le1, le0, Nat.sub_zero, Bool.true_and, Bool.and_true, Bool.false_and, Bool.and_false, Bool.true_or, Bool.false_or, Bool.or_false, Bool.or_true, beq_self_eq_true, not_true_eq_false, not_false_eq_true, decide_eq_true_eq, fldC1, ofC'1, par2_2, par3_3, w_par2E, w_par3E, w_slD, w_slF, w_eSlice, w_eNoP, w_eP, w_intO, w_gT21, w_zpLLT, w_truO1, w_binO, w_ninO, w_eCM, w_eqLL, w_neLL, w_eqTT, w_neTT, lcY_nil, lcY_cons, w_all2, at2_0, at2_1, at3_0, at3_1, at3_2, at4_0, at4_1, at4_2, at4_3, itm_some, ixLE, ixFE, ixTE, ixO0, setO0, put_some, ix2_0, ix2_1, ix4_0, ix4_1, ix4_2, ix4_3, false_and, and_false, implies_true, w_eClr, w_slAL, w_slAF, w_seqG, w_lenG, w_enAG, w_tupleG, ixGE, isi_lt_G, w_nisN, w_binI, w_eApp, w_eMakeF, isLO_b, ix_b, augIE, w_eMv, w_one, okTg_self, at_behind, set_behind, Nat.reduceAdd, Int.reduceLT, Int.reduceLE, Int.reduceToNat, Nat.reduceLT, Nat.reduceLeDiff, Nat.reduceEqDiff, Int.reduceAbs, Int.reduceAdd, Int.reduceEq, Int.reduceNeg, Int.reduceSub, Int.reduceMul, Nat.reduceSub, Int.cast_ofNat_Int, Int.natCast_zero, Int.natCast_one, belowD])
theorem is_int_b {b : Bool} {P : D → Sto → Prop} : W (g_is_integer A [.bl b]) st P = P (.bl false) st := callE rfl (by unfold b_is_integer; simp only [w_bind, w_pure, w_var, w_c, w_op2, w_nil, w_cons, w_tup, w_lst, w_newL, w_sub, w_add, w_mod, w_divE, w_powE, w_mulE, w_cmp, w_bD, w_eB, w_eTru, w_truB, w_ch, w_tand, w_tor, w_tnot, w_and, w_or, w_not, DL.w_next, w_ret, w_sif, w_expr, w_gN, w_asg, w_eCall, w_seq, goOn_nx, goOn_rt, w_lc, w_lcN, w_iR1, w_iR2, w_iSq, w_seqL, w_seqT, w_lenT, w_lenL, w_lenF, w_max, w_min, w_gSub, w_for, w_isi, w_if, w_tupleL, w_tupleT, w_listL, w_listT, w_listNT, w_listNL, w_neg, w_negI, w_eListR1, w_iZpA, w_iZp3A, w_iEnA, w_zpTT, w_zpTL, w_zpLT, w_zpLL, w_enAL, w_enAT, w_isN, w_isT, w_nisT, w_isB, w_nisB, w_isI, w_nisI, w_isL, w_nisL, w_gT2, w_gT3, w_intB, w_intI, w_eMake, w_fld1, w_prop1, w_meth1, w_sub1, w_or2a1, w_own, w_inO, w_eIf, w_eqI, w_neI, w_eqB, w_neB, isi_int_int, isi_int_bl, isi_int_non, isi_int_str, isi_int_lst, isi_int_tup, isi_int_dct, isi_bool_int, isi_bool_bl, isi_bool_non, isi_bool_str, isi_bool_lst, isi_bool_tup, isi_bool_dct, isi_str_int, isi_str_bl, isi_str_non, isi_str_str, isi_str_lst, isi_str_tup, isi_str_dct, isi_list_int, isi_list_bl, isi_list_non, isi_list_str, isi_list_lst, isi_list_tup, isi_list_dct, isi_tuple_int, isi_tuple_bl, isi_tuple_non, isi_tuple_str, isi_tuple_lst, isi_tuple_tup, isi_tuple_dct, isi_dict_int, isi_dict_bl, isi_dict_non, isi_dict_str, isi_dict_lst, isi_dict_tup, isi_dict_dct, isi_lt_int, isi_o_int, isi_lt_bl, isi_o_bl, isi_lt_non, isi_o_non, isi_lt_str, isi_o_str, isi_lt_lst, isi_o_lst, isi_lt_tup, isi_o_tup, isi_lt_dct, isi_o_dct, isi_own, mapR_len, rngD_length, enumD_mapR, zip_mapR, zip3_mapR, rng0, rngA, List.length_map, startD, wipeD, List.map_cons, List.map_nil, List.length_cons, List.length_nil, List.replicate, List.cons_append, List.nil_append, List.append_nil, List.getElem?_cons_zero, List.getElem?_cons_succ, List.set_cons_succ, List.set_cons_zero, Bool.not_true, Bool.not_false, if_true, if_false, Bool.false_eq_true, decide_true, decide_false, true_and, and_true, and_self, and_imp, Int.zero_add, le2, le3, le4, le1, le0, Nat.sub_zero, Bool.true_and, Bool.and_true, Bool.false_and, Bool.and_false, Bool.true_or, Bool.false_or, Bool.or_false, Bool.or_true, beq_self_eq_true, not_true_eq_false, not_false_eq_true, decide_eq_true_eq, fldC1, ofC'1, par2_2, par3_3, w_par2E, w_par3E, w_slD, w_slF, w_eSlice, w_eNoP, w_eP, w_intO, w_gT21, w_zpLLT, w_truO1, w_binO, w_ninO, w_eCM, w_eqLL, w_neLL, w_eqTT, w_neTT, lcY_nil, lcY_cons, w_all2, at2_0, at2_1, at3_0, at3_1, at3_2, at4_0, at4_1, at4_2, at4_3, itm_some, ixLE, ixFE, ixTE, ixO0, setO0, put_some, ix2_0, ix2_1, ix4_0, ix4_1, ix4_2, ix4_3, false_and, and_false, implies_true, w_eClr, w_slAL, w_slAF, w_seqG, w_lenG, w_enAG, w_tupleG, ixGE, isi_lt_G, w_nisN, w_binI, w_eApp, w_eMakeF, isLO_b, ix_b, augIE, w_eMv, w_one, okTg_self, at_behind, set_behind, Nat.reduceAdd, Int.reduceLT, Int.reduceLE, Int.reduceToNat, Nat.reduceLT, Nat.reduceLeDiff, Nat.reduceEqDiff, Int.reduceAbs, Int.reduceAdd, Int.reduceEq, Int.reduceNeg, Int.reduceSub, Int.reduceMul, Nat.reduceSub, Int.cast_ofNat_Int, Int.natCast_zero, Int.natCast_one, belowD])
theorem is_int_n {P : D → Sto → Prop} : W (g_is_integer A [.non]) st P = P (.bl false) st := callE rfl (by unfold b_is_integer; simp only [w_bind, w_pure, w_var, w_c, w_op2, w_nil, w_cons, w_tup, w_lst, w_newL, w_sub, w_add, w_mod, w_divE, w_powE, w_mulE, w_cmp, w_bD, w_eB, w_eTru, w_truB, w_ch, w_tand, w_tor, w_tnot, w_and, w_or, w_not, DL.w_next, w_ret, w_sif, w_expr, w_gN, w_asg, w_eCall, w_seq, goOn_nx, goOn_rt, w_lc, w_lcN, w_iR1, w_iR2, w_iSq, w_seqL, w_seqT, w_lenT, w_lenL, w_lenF, w_max, w_min, w_gSub, w_for, w_isi, w_if, w_tupleL, w_tupleT, w_listL, w_listT, w_listNT, w_listNL, w_neg, w_negI, w_eListR1, w_iZpA, w_iZp3A, w_iEnA, w_zpTT, w_zpTL, w_zpLT, w_zpLL, w_enAL, w_enAT, w_isN, w_isT, w_nisT, w_isB, w_nisB, w_isI, w_nisI, w_isL, w_nisL, w_gT2, w_gT3, w_intB, w_intI, w_eMake, w_fld1, w_prop1, w_meth1, w_sub1, w_or2a1, w_own, w_inO, w_eIf, w_eqI, w_neI, w_eqB, w_neB, isi_int_int, isi_int_bl, isi_int_non, isi_int_str, isi_int_lst, isi_int_tup, isi_int_dct, isi_bool_int, isi_bool_bl, isi_bool_non, isi_bool_str, isi_bool_lst, isi_bool_tup, isi_bool_dct, isi_str_int, isi_str_bl, isi_str_non, isi_str_str, isi_str_lst, isi_str_tup, isi_str_dct, isi_list_int, isi_list_bl, isi_list_non, isi_list_str, isi_list_lst, isi_list_tup, isi_list_dct, isi_tuple_int, isi_tuple_bl, isi_tuple_non, isi_tuple_str, isi_tuple_lst, isi_tuple_tup, isi_tuple_dct, isi_dict_int, isi_dict_bl, isi_dict_non, isi_dict_str, isi_dict_lst, isi_dict_tup, isi_dict_dct, isi_lt_int, isi_o_int, isi_lt_bl, isi_o_bl, isi_lt_non, isi_o_non, isi_lt_str, isi_o_str, isi_lt_lst, isi_o_lst, isi_lt_tup, isi_o_tup, isi_lt_dct, isi_o_dct, isi_own, mapR_len, rngD_length, enumD_mapR, zip_mapR, zip3_mapR, rng0, rngA, List.length_map, startD, wipeD, List.map_cons, List.map_nil, List.length_cons, List.length_nil, List.replicate, List.cons_append, List.nil_append, List.append_nil, List.getElem?_cons_zero, List.getElem?_cons_succ, List.set_cons_succ, List.set_cons_zero, Bool.not_true, Bool.not_false, if_true, if_false, Bool.false_eq_true, decide_true, decide_false, true_and, and_true, and_self, and_imp, Int.zero_add, le2, le3, le4, le1, le0, Nat.sub_zero, Bool.true_and, Bool.and_true, Bool.false_and, Bool.and_false, Bool.true_or, Bool.false_or, Bool.or_false, Bool.or_true, beq_self_eq_true, not_true_eq_false, not_false_eq_true, decide_eq_true_eq, fldC1, ofC'1, par2_2, par3_3, w_par2E, w_par3E, w_slD, w_slF, w_eSlice, w_eNoP, w_eP, w_intO, w_gT21, w_zpLLT, w_truO1, w_binO, w_ninO, w_eCM, w_eqLL, w_neLL, w_eqTT, w_neTT, lcY_nil, lcY_cons, w_all2, at2_0, at2_1, at3_0, at3_1, at3_2, at4_0, at4_1, at4_2, at4_3, itm_some, ixLE, ixFE, ixTE, ixO0, setO0, put_some, ix2_0, ix2_1, ix4_0, ix4_1, ix4_2, ix4_3, false_and, and_false, implies_true, w_eClr, w_slAL, w_slAF, w_seqG, w_lenG, w_enAG, w_tupleG, ixGE, isi_lt_G, w_nisN, w_binI, w_eApp, w_eMakeF, isLO_b, ix_b, augIE, w_eMv, w_one, okTg_self, at_behind, set_behind, Nat.reduceAdd, Int.reduceLT, Int.reduceLE, Int.reduceToNat, Nat.reduceLT, Nat.reduceLeDiff, Nat.reduceEqDiff, Int.reduceAbs, Int.reduceAdd, Int.reduceEq, Int.reduceNeg, Int.reduceSub, Int.reduceMul, Nat.reduceSub, Int.cast_ofNat_Int, Int.natCast_zero, Int.natCast_one, belowD])
theorem is_int_s {x : Str} {P : D → Sto → Prop} : W (g_is_integer A [.str x]) st P = P (.bl false) st := callE rfl (by unfold b_is_integer; simp only [w_bind, w_pure, w_var, w_c, w_op2, w_nil, w_cons, w_tup, w_lst, w_newL, w_sub, w_add, w_mod, w_divE, w_powE, w_mulE, w_cmp, w_bD, w_eB, w_eTru, w_truB, w_ch, w_tand, w_tor, w_tnot, w_and, w_or, w_not, DL.w_next, w_ret, w_sif, w_expr, w_gN, w_asg, w_eCall, w_seq, goOn_nx, goOn_rt, w_lc, w_lcN, w_iR1, w_iR2, w_iSq, w_seqL, w_seqT, w_lenT, w_lenL, w_lenF, w_max, w_min, w_gSub, w_for, w_isi, w_if, w_tupleL, w_tupleT, w_listL, w_listT, w_listNT, w_listNL, w_neg, w_negI, w_eListR1, w_iZpA, w_iZp3A, w_iEnA, w_zpTT, w_zpTL, w_zpLT, w_zpLL, w_enAL, w_enAT, w_isN, w_isT, w_nisT, w_isB, w_nisB, w_isI, w_nisI, w_isL, w_nisL, w_gT2, w_gT3, w_intB, w_intI, w_eMake, w_fld1, w_prop1, w_meth1, w_sub1, w_or2a1, w_own, w_inO, w_eIf, w_eqI, w_neI, w_eqB, w_neB, isi_int_int, isi_int_bl, isi_int_non, isi_int_str, isi_int_lst, isi_int_tup, isi_int_dct, isi_bool_int, isi_bool_bl, isi_bool_non, isi_bool_str, isi_bool_lst, isi_bool_tup, isi_bool_dct, isi_str_int, isi_str_bl, isi_str_non, isi_str_str, isi_str_lst, isi_str_tup, isi_str_dct, isi_list_int, isi_list_bl, isi_list_non, isi_list_str, isi_list_lst, isi_list_tup, isi_list_dct, isi_tuple_int, isi_tuple_bl, isi_tuple_non, isi_tuple_str, isi_tuple_lst, isi_tuple_tup, isi_tuple_dct, isi_dict_int, isi_dict_bl, isi_dict_non, isi_dict_str, isi_dict_lst, isi_dict_tup, isi_dict_dct, isi_lt_int, isi_o_int, isi_lt_bl, isi_o_bl, isi_lt_non, isi_o_non, isi_lt_str, isi_o_str, isi_lt_lst, isi_o_lst, isi_lt_tup, isi_o_tup, isi_lt_dct, isi_o_dct, isi_own, mapR_len, rngD_length, enumD_mapR, zip_mapR, zip3_mapR, rng0, rngA, List.length_map, startD, wipeD, List.map_cons, List.map_nil, List.length_cons, List.length_nil, List.replicate, List.cons_append, List.nil_append, List.append_nil, List.getElem?_cons_zero, List.getElem?_cons_succ, List.set_cons_succ, List.set_cons_zero, Bool.not_true, Bool.not_false, if_true, if_false, Bool.false_eq_true, decide_true, decide_false, true_and, and_true, and_self, and_imp, Int.zero_add, le2, le3, le4, le1, le0, Nat.sub_zero, Bool.true_and, Bool.and_true, Bool.false_and, Bool.and_false, Bool.true_or, Bool.false_or, Bool.or_false, Bool.or_true, beq_self_eq_true, not_true_eq_false, not_false_eq_true, decide_eq_true_eq, fldC1, ofC'1, par2_2, par3_3, w_par2E, w_par3E, w_slD, w_slF, w_eSlice, w_eNoP, w_eP, w_intO, w_gT21, w_zpLLT, w_truO1, w_binO, w_ninO, w_eCM, w_eqLL, w_neLL, w_eqTT, w_neTT, lcY_nil, lcY_cons, w_all2, at2_0, at2_1, at3_0, at3_1, at3_2, at4_0, at4_1, at4_2, at4_3, itm_some, ixLE, ixFE, ixTE, ixO0, setO0, put_some, ix2_0, ix2_1, ix4_0, ix4_1, ix4_2, ix4_3, false_and, and_false, implies_true, w_eClr, w_slAL, w_slAF, w_seqG, w_lenG, w_enAG, w_tupleG, ixGE, isi_lt_G, w_nisN, w_binI, w_eApp, w_eMakeF, isLO_b, ix_b, augIE, w_eMv, w_one, okTg_self, at_behind, set_behind, Nat.reduceAdd, Int.reduceLT, Int.reduceLE, Int.reduceToNat, Nat.reduceLT, Nat.reduceLeDiff, Nat.reduceEqDiff, Int.reduceAbs, Int.reduceAdd, Int.reduceEq, Int.reduceNeg, Int.reduceSub, Int.reduceMul, Nat.reduceSub, Int.cast_ofNat_Int, Int.natCast_zero, Int.natCast_one, belowD])
theorem is_int_t {x : List D} {P : D → Sto → Prop} : W (g_is_integer A [.tup x]) st P = P (.bl false) st := callE rfl (by unfold b_is_integer; simp only [w_bind, w_pure, w_var, w_c, w_op2, w_nil, w_cons, w_tup, w_lst, w_newL, w_sub, w_add, w_mod, w_divE, w_powE, w_mulE, w_cmp, w_bD, w_eB, w_eTru, w_truB, w_ch, w_tand, w_tor, w_tnot, w_and, w_or, w_not, DL.w_next, w_ret, w_sif, w_expr, w_gN, w_asg, w_eCall, w_seq, goOn_nx, goOn_rt, w_lc, w_lcN, w_iR1, w_iR2, w_iSq, w_seqL, w_seqT, w_lenT, w_lenL, w_lenF, w_max, w_min, w_gSub, w_for, w_isi, w_if, w_tupleL, w_tupleT, w_listL, w_listT, w_listNT, w_listNL, w_neg, w_negI, w_eListR1, w_iZpA, w_iZp3A, w_iEnA, w_zpTT, w_zpTL, w_zpLT, w_zpLL, w_enAL, w_enAT, w_isN, w_isT, w_nisT, w_isB, w_nisB, w_isI, w_nisI, w_isL, w_nisL, w_gT2, w_gT3, w_intB, w_intI, w_eMake, w_fld1, w_prop1, w_meth1, w_sub1, w_or2a1, w_own, w_inO, w_eIf, w_eqI, w_neI, w_eqB, w_neB, isi_int_int, isi_int_bl, isi_int_non, isi_int_str, isi_int_lst, isi_int_tup, isi_int_dct, isi_bool_int, isi_bool_bl, isi_bool_non, isi_bool_str, isi_bool_lst, isi_bool_tup, isi_bool_dct, isi_str_int, isi_str_bl, isi_str_non, isi_str_str, isi_str_lst, isi_str_tup, isi_str_dct, isi_list_int, isi_list_bl, isi_list_non, isi_list_str, isi_list_lst, isi_list_tup, isi_list_dct, isi_tuple_int, isi_tuple_bl, isi_tuple_non, isi_tuple_str, isi_tuple_lst, isi_tuple_tup, isi_tuple_dct, isi_dict_int, isi_dict_bl, isi_dict_non, isi_dict_str, isi_dict_lst, isi_dict_tup, isi_dict_dct, isi_lt_int, isi_o_int, isi_lt_bl, isi_o_bl, isi_lt_non, isi_o_non, isi_lt_str, isi_o_str, isi_lt_lst, isi_o_lst, isi_lt_tup, isi_o_tup, isi_lt_dct, isi_o_dct, isi_own, mapR_len, rngD_length, enumD_mapR, zip_mapR, zip3_mapR, rng0, rngA, List.length_map, startD, wipeD, List.map_cons, List.map_nil, List.length_cons, List.length_nil, List.replicate, List.cons_append, List.nil_append, List.append_nil, List.getElem?_cons_zero, List.getElem?_cons_succ, List.set_cons_succ, List.set_cons_zero, Bool.not_true, Bool.not_false, if_true, if_false, Bool.false_eq_true, decide_true, decide_false, true_and, and_true, and_self, and_imp, Int.zero_add, le2, le3, le4, le1, le0, Nat.sub_zero, Bool.true_and, Bool.and_true, Bool.false_and, Bool.and_false, Bool.true_or, Bool.false_or, Bool.or_false, Bool.or_true, beq_self_eq_true, not_true_eq_false, not_false_eq_true, decide_eq_true_eq, fldC1, ofC'1, par2_2, par3_3, w_par2E, w_par3E, w_slD, w_slF, w_eSlice, w_eNoP, w_eP, w_intO, w_gT21, w_zpLLT, w_truO1, w_binO, w_ninO, w_eCM, w_eqLL, w_neLL, w_eqTT, w_neTT, lcY_nil, lcY_cons, w_all2, at2_0, at2_1, at3_0, at3_1, at3_2, at4_0, at4_1, at4_2, at4_3, itm_some, ixLE, ixFE, ixTE, ixO0, setO0, put_some, ix2_0, ix2_1, ix4_0, ix4_1, ix4_2, ix4_3, false_and, and_false, implies_true, w_eClr, w_slAL, w_slAF, w_seqG, w_lenG, w_enAG, w_tupleG, ixGE, isi_lt_G, w_nisN, w_binI, w_eApp, w_eMakeF, isLO_b, ix_b, augIE, w_eMv, w_one, okTg_self, at_behind, set_behind, Nat.reduceAdd, Int.reduceLT, Int.reduceLE, Int.reduceToNat, Nat.reduceLT, Nat.reduceLeDiff, Nat.reduceEqDiff, Int.reduceAbs, Int.reduceAdd, Int.reduceEq, Int.reduceNeg, Int.reduceSub, Int.reduceMul, Nat.reduceSub, Int.cast_ofNat_Int, Int.natCast_zero, Int.natCast_one, belowD])
theorem is_int_l {x : List D} {P : D → Sto → Prop} : W (g_is_integer A [.lst x]) st P = P (.bl false) st := callE rfl (by unfold b_is_integer; simp only [w_bind, w_pure, w_var, w_c, w_op2, w_nil, w_cons, w_tup, w_lst, w_newL, w_sub, w_add, w_mod, w_divE, w_powE, w_mulE, w_cmp, w_bD, w_eB, w_eTru, w_truB, w_ch, w_tand, w_tor, w_tnot, w_and, w_or, w_not, DL.w_next, w_ret, w_sif, w_expr, w_gN, w_asg, w_eCall, w_seq, goOn_nx, goOn_rt, w_lc, w_lcN, w_iR1, w_iR2, w_iSq, w_seqL, w_seqT, w_lenT, w_lenL, w_lenF, w_max, w_min, w_gSub, w_for, w_isi, w_if, w_tupleL, w_tupleT, w_listL, w_listT, w_listNT, w_listNL, w_neg, w_negI, w_eListR1, w_iZpA, w_iZp3A, w_iEnA, w_zpTT, w_zpTL, w_zpLT, w_zpLL, w_enAL, w_enAT, w_isN, w_isT, w_nisT, w_isB, w_nisB, w_isI, w_nisI, w_isL, w_nisL, w_gT2, w_gT3, w_intB, w_intI, w_eMake, w_fld1, w_prop1, w_meth1, w_sub1, w_or2a1, w_own, w_inO, w_eIf, w_eqI, w_neI, w_eqB, w_neB, isi_int_int, isi_int_bl, isi_int_non, isi_int_str, isi_int_lst, isi_int_tup, isi_int_dct, isi_bool_int, isi_bool_bl, isi_bool_non, isi_bool_str, isi_bool_lst, isi_bool_tup, isi_bool_dct, isi_str_int, isi_str_bl, isi_str_non, isi_str_str, isi_str_lst, isi_str_tup, isi_str_dct, isi_list_int, isi_list_bl, isi_list_non, isi_list_str, isi_list_lst, isi_list_tup, isi_list_dct, isi_tuple_int, isi_tuple_bl, isi_tuple_non, isi_tuple_str, isi_tuple_lst, isi_tuple_tup, isi_tuple_dct, isi_dict_int, isi_dict_bl, isi_dict_non, isi_dict_str, isi_dict_lst, isi_dict_tup, isi_dict_dct, isi_lt_int, isi_o_int, isi_lt_bl, isi_o_bl, isi_lt_non, isi_o_non, isi_lt_str, isi_o_str, isi_lt_lst, isi_o_lst, isi_lt_tup, isi_o_tup, isi_lt_dct, isi_o_dct, isi_own, mapR_len, rngD_length, enumD_mapR, zip_mapR, zip3_mapR, rng0, rngA, List.length_map, startD, wipeD, List.map_cons, List.map_nil, List.length_cons, List.length_nil, List.replicate, List.cons_append, List.nil_append, List.append_nil, List.getElem?_cons_zero, List.getElem?_cons_succ, List.set_cons_succ, List.set_cons_zero, Bool.not_true, Bool.not_false, if_true, if_false, Bool.false_eq_true, decide_true, decide_false, true_and, and_true, and_self, and_imp, Int.zero_add, le2, le3, le4, le1, le0, Nat.sub_zero, Bool.true_and, Bool.and_true, Bool.false_and, Bool.and_false, Bool.true_or, Bool.false_or, Bool.or_false, Bool.or_true, beq_self_eq_true, not_true_eq_false, not_false_eq_true, decide_eq_true_eq, fldC1, ofC'1, par2_2, par3_3, w_par2E, w_par3E, w_slD, w_slF, w_eSlice, w_eNoP, w_eP, w_intO, w_gT21, w_zpLLT, w_truO1, w_binO, w_ninO, w_eCM, w_eqLL, w_neLL, w_eqTT, w_neTT, lcY_nil, lcY_cons, w_all2, at2_0, at2_1, at3_0, at3_1, at3_2, at4_0, at4_1, at4_2, at4_3, itm_some, ixLE, ixFE, ixTE, ixO0, setO0, put_some, ix2_0, ix2_1, ix4_0, ix4_1, ix4_2, ix4_3, false_and, and_false, implies_true, w_eClr, w_slAL, w_slAF, w_seqG, w_lenG, w_enAG, w_tupleG, ixGE, isi_lt_G, w_nisN, w_binI, w_eApp, w_eMakeF, isLO_b, ix_b, augIE, w_eMv, w_one, okTg_self, at_behind, set_behind, Nat.reduceAdd, Int.reduceLT, Int.reduceLE, Int.reduceToNat, Nat.reduceLT, Nat.reduceLeDiff, Nat.reduceEqDiff, Int.reduceAbs, Int.reduceAdd, Int.reduceEq, Int.reduceNeg, Int.reduceSub, Int.reduceMul, Nat.reduceSub, Int.cast_ofNat_Int, Int.natCast_zero, Int.natCast_one, belowD])
theorem is_int_d {x : List (Key × D)} {P : D → Sto → Prop} : W (g_is_integer A [.dct x]) st P = P (.bl false) st := callE rfl (by unfold b_is_integer; simp only [w_bind, w_pure, w_var, w_c, w_op2, w_nil, w_cons, w_tup, w_lst, w_newL, w_sub, w_add, w_mod, w_divE, w_powE, w_mulE, w_cmp, w_bD, w_eB, w_eTru, w_truB, w_ch, w_tand, w_tor, w_tnot, w_and, w_or, w_not, DL.w_next, w_ret, w_sif, w_expr, w_gN, w_asg, w_eCall, w_seq, goOn_nx, goOn_rt, w_lc, w_lcN, w_iR1, w_iR2, w_iSq, w_seqL, w_seqT, w_lenT, w_lenL, w_lenF, w_max, w_min, w_gSub, w_for, w_isi, w_if, w_tupleL, w_tupleT, w_listL, w_listT, w_listNT, w_listNL, w_neg, w_negI, w_eListR1, w_iZpA, w_iZp3A, w_iEnA, w_zpTT, w_zpTL, w_zpLT, w_zpLL, w_enAL, w_enAT, w_isN, w_isT, w_nisT, w_isB, w_nisB, w_isI, w_nisI, w_isL, w_nisL, w_gT2, w_gT3, w_intB, w_intI, w_eMake, w_fld1, w_prop1, w_meth1, w_sub1, w_or2a1, w_own, w_inO, w_eIf, w_eqI, w_neI, w_eqB, w_neB, isi_int_int, isi_int_bl, isi_int_non, isi_int_str, isi_int_lst, isi_int_tup, isi_int_dct, isi_bool_int, isi_bool_bl, isi_bool_non, isi_bool_str, isi_bool_lst, isi_bool_tup, isi_bool_dct, isi_str_int, isi_str_bl, isi_str_non, isi_str_str, isi_str_lst, isi_str_tup, isi_str_dct, isi_list_int, isi_list_bl, isi_list_non, isi_list_str, isi_list_lst, isi_list_tup, isi_list_dct, isi_tuple_int, isi_tuple_bl, isi_tuple_non, isi_tuple_str, isi_tuple_lst, isi_tuple_tup, isi_tuple_dct, isi_dict_int, isi_dict_bl, isi_dict_non, isi_dict_str, isi_dict_lst, isi_dict_tup, isi_dict_dct, isi_lt_int, isi_o_int, isi_lt_bl, isi_o_bl, isi_lt_non, isi_o_non, isi_lt_str, isi_o_str, isi_lt_lst, isi_o_lst, isi_lt_tup, isi_o_tup, isi_lt_dct, isi_o_dct, isi_own, mapR_len, rngD_length, enumD_mapR, zip_mapR, zip3_mapR, rng0, rngA, List.length_map, startD, wipeD, List.map_cons, List.map_nil, List.length_cons, List.length_nil, List.replicate, List.cons_append, List.nil_append, List.append_nil, List.getElem?_cons_zero, List.getElem?_cons_succ, List.set_cons_succ, List.set_cons_zero, Bool.not_true, Bool.not_false, if_true, if_false, Bool.false_eq_true, decide_true, decide_false, true_and, and_true, and_self, and_imp, Int.zero_add, le2, le3, le4, le1, le0, Nat.sub_zero, Bool.true_and, Bool.and_true, Bool.false_and, Bool.and_false, Bool.true_or, Bool.false_or, Bool.or_false, Bool.or_true, beq_self_eq_true, not_true_eq_false, not_false_eq_true, decide_eq_true_eq, fldC1, ofC'1, par2_2, par3_3, w_par2E, w_par3E, w_slD, w_slF, w_eSlice, w_eNoP, w_eP, w_intO, w_gT21, w_zpLLT, w_truO1, w_binO, w_ninO, w_eCM, w_eqLL, w_neLL, w_eqTT, w_neTT, lcY_nil, lcY_cons, w_all2, at2_0, at2_1, at3_0, at3_1, at3_2, at4_0, at4_1, at4_2, at4_3, itm_some, ixLE, ixFE, ixTE, ixO0, setO0, put_some, ix2_0, ix2_1, ix4_0, ix4_1, ix4_2, ix4_3, false_and, and_false, implies_true, w_eClr, w_slAL, w_slAF, w_seqG, w_lenG, w_enAG, w_tupleG, ixGE, isi_lt_G, w_nisN, w_binI, w_eApp, w_eMakeF, isLO_b, ix_b, augIE, w_eMv, w_one, okTg_self, at_behind, set_behind, Nat.reduceAdd, Int.reduceLT, Int.reduceLE, Int.reduceToNat, Nat.reduceLT, Nat.reduceLeDiff, Nat.reduceEqDiff, Int.reduceAbs, Int.reduceAdd, Int.reduceEq, Int.reduceNeg, Int.reduceSub, Int.reduceMul, Nat.reduceSub, Int.cast_ofNat_Int, Int.natCast_zero, Int.natCast_one, belowD])
theorem need_num {i a b : Int} (h1 : a ≤ i) (h2 : i ≤ b) {P : D → Sto → Prop} : W (g_need_number A [.int i, .int a, .int b]) st P = P .non st := callE rfl (by
  unfold b_need_number
  have e1 : ¬ i < a := by omega
  have e2 : ¬ i > b := by omega
  have e3 : ∀ {s : Sto} {P : D → Sto → Prop}, W (nisD (.int b) .non) s P = P (.bl true) s := W.eq rfl
  simp only [w_bind, w_pure, w_var, w_c, w_op2, w_nil, w_cons, w_tup, w_lst, w_newL, w_sub, w_add, w_mod, w_divE, w_powE, w_mulE, w_cmp, w_bD, w_eB, w_eTru, w_truB, w_ch, w_tand, w_tor, w_tnot, w_and, w_or, w_not, DL.w_next, w_ret, w_sif, w_expr, w_gN, w_asg, w_eCall, w_seq, goOn_nx, goOn_rt, w_lc, w_lcN, w_iR1, w_iR2, w_iSq, w_seqL, w_seqT, w_lenT, w_lenL, w_lenF, w_max, w_min, w_gSub, w_for, w_isi, w_if, w_tupleL, w_tupleT, w_listL, w_listT, w_listNT, w_listNL, w_neg, w_negI, w_eListR1, w_iZpA, w_iZp3A, w_iEnA, w_zpTT, w_zpTL, w_zpLT, w_zpLL, w_enAL, w_enAT, w_isN, w_isT, w_nisT, w_isB, w_nisB, w_isI, w_nisI, w_isL, w_nisL, w_gT2, w_gT3, w_intB, w_intI, w_eMake, w_fld1, w_prop1, w_meth1, w_sub1, w_or2a1, w_own, w_inO, w_eIf, w_eqI, w_neI, w_eqB, w_neB, isi_int_int, isi_int_bl, isi_int_non, isi_int_str, isi_int_lst, isi_int_tup, isi_int_dct, isi_bool_int, isi_bool_bl, isi_bool_non, isi_bool_str, isi_bool_lst, isi_bool_tup, isi_bool_dct, isi_str_int, isi_str_bl, isi_str_non, isi_str_str, isi_str_lst, isi_str_tup, isi_str_dct, isi_list_int, isi_list_bl, isi_list_non, isi_list_str, isi_list_lst, isi_list_tup, isi_list_dct, isi_tuple_int, isi_tuple_bl, isi_tuple_non, isi_tuple_str, isi_tuple_lst, isi_tuple_tup, isi_tuple_dct, isi_dict_int, isi_dict_bl, isi_dict_non, isi_dict_str, isi_dict_lst, isi_dict_tup, isi_dict_dct, isi_lt_int, isi_o_int, isi_lt_bl, isi_o_bl, isi_lt_non, isi_o_non, isi_lt_str, isi_o_str, isi_lt_lst, isi_o_lst, isi_lt_tup, isi_o_tup, isi_lt_dct, isi_o_dct, isi_own, mapR_len, rngD_length, enumD_mapR, zip_mapR, zip3_mapR, rng0, rngA, List.length_map, startD, wipeD, List.map_cons, List.map_nil, List.length_cons, List.length_nil, List.replicate, List.cons_append, List.nil_append, List.append_nil, List.getElem?_cons_zero, List.getElem?_cons_succ, List.set_cons_succ, List.set_cons_zero, Bool.not_true, Bool.not_false, if_true, if_false, Bool.false_eq_true, decide_true, decide_false, true_and, and_true, and_self, and_imp, Int.zero_add, le2, le3, le4, le1, le0, Nat.sub_zero, Bool.true_and, Bool.and_true, Bool.false_and, Bool.and_false, Bool.true_or, Bool.false_or, Bool.or_false, Bool.or_true, beq_self_eq_true, not_true_eq_false, not_false_eq_true, decide_eq_true_eq, fldC1, ofC'1, par2_2, par3_3, w_par2E, w_par3E, w_slD, w_slF, w_eSlice, w_eNoP, w_eP, w_intO, w_gT21, w_zpLLT, w_truO1, w_binO, w_ninO, w_eCM, w_eqLL, w_neLL, w_eqTT, w_neTT, lcY_nil, lcY_cons, w_all2, at2_0, at2_1, at3_0, at3_1, at3_2, at4_0, at4_1, at4_2, at4_3, itm_some, ixLE, ixFE, ixTE, ixO0, setO0, put_some, ix2_0, ix2_1, ix4_0, ix4_1, ix4_2, ix4_3, false_and, and_false, implies_true, w_eClr, w_slAL, w_slAF, w_seqG, w_lenG, w_enAG, w_tupleG, ixGE, isi_lt_G, w_nisN, w_binI, w_eApp, w_eMakeF, isLO_b, ix_b, augIE, w_eMv, w_one, okTg_self, at_behind, set_behind, Nat.reduceAdd, Int.reduceLT, Int.reduceLE, Int.reduceToNat, Nat.reduceLT, Nat.reduceLeDiff, Nat.reduceEqDiff, Int.reduceAbs, Int.reduceAdd, Int.reduceEq, Int.reduceNeg, Int.reduceSub, Int.reduceMul, Nat.reduceSub, Int.cast_ofNat_Int, Int.natCast_zero, Int.natCast_one, is_int_i, e1, e2, e3])
theorem need_numN {i a : Int} (h1 : a ≤ i) {P : D → Sto → Prop} : W (g_need_number A [.int i, .int a, .non]) st P = P .non st := callE rfl (by
  unfold b_need_number
  have e1 : ¬ i < a := by omega
  simp only [w_bind, w_pure, w_var, w_c, w_op2, w_nil, w_cons, w_tup, w_lst, w_newL, w_sub, w_add, w_mod, w_divE, w_powE, w_mulE, w_cmp, w_bD, w_eB, w_eTru, w_truB, w_ch, w_tand, w_tor, w_tnot, w_and, w_or, w_not, DL.w_next, w_ret, w_sif, w_expr, w_gN, w_asg, w_eCall, w_seq, goOn_nx, goOn_rt, w_lc, w_lcN, w_iR1, w_iR2, w_iSq, w_seqL, w_seqT, w_lenT, w_lenL, w_lenF, w_max, w_min, w_gSub, w_for, w_isi, w_if, w_tupleL, w_tupleT, w_listL, w_listT, w_listNT, w_listNL, w_neg, w_negI, w_eListR1, w_iZpA, w_iZp3A, w_iEnA, w_zpTT, w_zpTL, w_zpLT, w_zpLL, w_enAL, w_enAT, w_isN, w_isT, w_nisT, w_isB, w_nisB, w_isI, w_nisI, w_isL, w_nisL, w_gT2, w_gT3, w_intB, w_intI, w_eMake, w_fld1, w_prop1, w_meth1, w_sub1, w_or2a1, w_own, w_inO, w_eIf, w_eqI, w_neI, w_eqB, w_neB, isi_int_int, isi_int_bl, isi_int_non, isi_int_str, isi_int_lst, isi_int_tup, isi_int_dct, isi_bool_int, isi_bool_bl, isi_bool_non, isi_bool_str, isi_bool_lst, isi_bool_tup, isi_bool_dct, isi_str_int, isi_str_bl, isi_str_non, isi_str_str, isi_str_lst, isi_str_tup, isi_str_dct, isi_list_int, isi_list_bl, isi_list_non, isi_list_str, isi_list_lst, isi_list_tup, isi_list_dct, isi_tuple_int, isi_tuple_bl, isi_tuple_non, isi_tuple_str, isi_tuple_lst, isi_tuple_tup, isi_tuple_dct, isi_dict_int, isi_dict_bl, isi_dict_non, isi_dict_str, isi_dict_lst, isi_dict_tup, isi_dict_dct, isi_lt_int, isi_o_int, isi_lt_bl, isi_o_bl, isi_lt_non, isi_o_non, isi_lt_str, isi_o_str, isi_lt_lst, isi_o_lst, isi_lt_tup, isi_o_tup, isi_lt_dct, isi_o_dct, isi_own, mapR_len, rngD_length, enumD_mapR, zip_mapR, zip3_mapR, rng0, rngA, List.length_map, startD, wipeD, List.map_cons, List.map_nil, List.length_cons, List.length_nil, List.replicate, List.cons_append, List.nil_append, List.append_nil, List.getElem?_cons_zero, List.getElem?_cons_succ, List.set_cons_succ, List.set_cons_zero, Bool.not_true, Bool.not_false, if_true, if_false, Bool.false_eq_true, decide_true, decide_false, true_and, and_true, and_self, and_imp, Int.zero_add, le2, le3, le4, le1, le0, Nat.sub_zero, Bool.true_and, Bool.and_true, Bool.false_and, Bool.and_false, Bool.true_or, Bool.false_or, Bool.or_false, Bool.or_true, beq_self_eq_true, not_true_eq_false, not_false_eq_true, decide_eq_true_eq, fldC1, ofC'1, par2_2, par3_3, w_par2E, w_par3E, w_slD, w_slF, w_eSlice, w_eNoP, w_eP, w_intO, w_gT21, w_zpLLT, w_truO1, w_binO, w_ninO, w_eCM, w_eqLL, w_neLL, w_eqTT, w_neTT, lcY_nil, lcY_cons, w_all2, at2_0, at2_1, at3_0, at3_1, at3_2, at4_0, at4_1, at4_2, at4_3, itm_some, ixLE, ixFE, ixTE, ixO0, setO0, put_some, ix2_0, ix2_1, ix4_0, ix4_1, ix4_2, ix4_3, false_and, and_false, implies_true, w_eClr, w_slAL, w_slAF, w_seqG, w_lenG, w_enAG, w_tupleG, ixGE, isi_lt_G, w_nisN, w_binI, w_eApp, w_eMakeF, isLO_b, ix_b, augIE, w_eMv, w_one, okTg_self, at_behind, set_behind, Nat.reduceAdd, Int.reduceLT, Int.reduceLE, Int.reduceToNat, Nat.reduceLT, Nat.reduceLeDiff, Nat.reduceEqDiff, Int.reduceAbs, Int.reduceAdd, Int.reduceEq, Int.reduceNeg, Int.reduceSub, Int.reduceMul, Nat.reduceSub, Int.cast_ofNat_Int, Int.natCast_zero, Int.natCast_one, is_int_i, e1])
theorem is_col_i {i n : Int} {P : D → Sto → Prop} : W (g_is_colour A [.int i, .int n]) st P = P (.bl (decide (0 ≤ i ∧ i < n))) st := callE rfl (by
  unfold b_is_colour
  simp only [w_bind, w_pure, w_var, w_c, w_op2, w_nil, w_cons, w_tup, w_lst, w_newL, w_sub, w_add, w_mod, w_divE, w_powE, w_mulE, w_cmp, w_bD, w_eB, w_eTru, w_truB, w_ch, w_tand, w_tor, w_tnot, w_and, w_or, w_not, DL.w_next, w_ret, w_sif, w_expr, w_gN, w_asg, w_eCall, w_seq, goOn_nx, goOn_rt, w_lc, w_lcN, w_iR1, w_iR2, w_iSq, w_seqL, w_seqT, w_lenT, w_lenL, w_lenF, w_max, w_min, w_gSub, w_for, w_isi, w_if, w_tupleL, w_tupleT, w_listL, w_listT, w_listNT, w_listNL, w_neg, w_negI, w_eListR1, w_iZpA, w_iZp3A, w_iEnA, w_zpTT, w_zpTL, w_zpLT, w_zpLL, w_enAL, w_enAT, w_isN, w_isT, w_nisT, w_isB, w_nisB, w_isI, w_nisI, w_isL, w_nisL, w_gT2, w_gT3, w_intB, w_intI, w_eMake, w_fld1, w_prop1, w_meth1, w_sub1, w_or2a1, w_own, w_inO, w_eIf, w_eqI, w_neI, w_eqB, w_neB, isi_int_int, isi_int_bl, isi_int_non, isi_int_str, isi_int_lst, isi_int_tup, isi_int_dct, isi_bool_int, isi_bool_bl, isi_bool_non, isi_bool_str, isi_bool_lst, isi_bool_tup, isi_bool_dct, isi_str_int, isi_str_bl, isi_str_non, isi_str_str, isi_str_lst, isi_str_tup, isi_str_dct, isi_list_int, isi_list_bl, isi_list_non, isi_list_str, isi_list_lst, isi_list_tup, isi_list_dct, isi_tuple_int, isi_tuple_bl, isi_tuple_non, isi_tuple_str, isi_tuple_lst, isi_tuple_tup, isi_tuple_dct, isi_dict_int, isi_dict_bl, isi_dict_non, isi_dict_str, isi_dict_lst, isi_dict_tup, isi_dict_dct, isi_lt_int, isi_o_int, isi_lt_bl, isi_o_bl, isi_lt_non, isi_o_non, isi_lt_str, isi_o_str, isi_lt_lst, isi_o_lst, isi_lt_tup, isi_o_tup, isi_lt_dct, isi_o_dct, isi_own, mapR_len, rngD_length, enumD_mapR, zip_mapR, zip3_mapR, rng0, rngA, List.length_map, startD, wipeD, List.map_cons, List.map_nil, List.length_cons, List.length_nil, List.replicate, List.cons_append, List.nil_append, List.append_nil, List.getElem?_cons_zero, List.getElem?_cons_succ, List.set_cons_succ, List.set_cons_zero, Bool.not_true, Bool.not_false, if_true, if_false, Bool.false_eq_true, decide_true, decide_false, true_and, and_true, and_self, and_imp, Int.zero_add, le2, le3, le4, le1, le0, Nat.sub_zero, Bool.true_and, Bool.and_true, Bool.false_and, Bool.and_false, Bool.true_or, Bool.false_or, Bool.or_false, Bool.or_true, beq_self_eq_true, not_true_eq_false, not_false_eq_true, decide_eq_true_eq, fldC1, ofC'1, par2_2, par3_3, w_par2E, w_par3E, w_slD, w_slF, w_eSlice, w_eNoP, w_eP, w_intO, w_gT21, w_zpLLT, w_truO1, w_binO, w_ninO, w_eCM, w_eqLL, w_neLL, w_eqTT, w_neTT, lcY_nil, lcY_cons, w_all2, at2_0, at2_1, at3_0, at3_1, at3_2, at4_0, at4_1, at4_2, at4_3, itm_some, ixLE, ixFE, ixTE, ixO0, setO0, put_some, ix2_0, ix2_1, ix4_0, ix4_1, ix4_2, ix4_3, false_and, and_false, implies_true, w_eClr, w_slAL, w_slAF, w_seqG, w_lenG, w_enAG, w_tupleG, ixGE, isi_lt_G, w_nisN, w_binI, w_eApp, w_eMakeF, isLO_b, ix_b, augIE, w_eMv, w_one, okTg_self, at_behind, set_behind, Nat.reduceAdd, Int.reduceLT, Int.reduceLE, Int.reduceToNat, Nat.reduceLT, Nat.reduceLeDiff, Nat.reduceEqDiff, Int.reduceAbs, Int.reduceAdd, Int.reduceEq, Int.reduceNeg, Int.reduceSub, Int.reduceMul, Nat.reduceSub, Int.cast_ofNat_Int, Int.natCast_zero, Int.natCast_one, is_int_i]
  by_cases h : 0 ≤ i <;> simp only [w_bind, w_pure, w_var, w_c, w_op2, w_nil, w_cons, w_tup, w_lst, w_newL, w_sub, w_add, w_mod, w_divE, w_powE, w_mulE, w_cmp, w_bD, w_eB, w_eTru, w_truB, w_ch, w_tand, w_tor, w_tnot, w_and, w_or, w_not, DL.w_next, w_ret, w_sif, w_expr, w_gN, w_asg, w_eCall, w_seq, goOn_nx, goOn_rt, w_lc, w_lcN, w_iR1, w_iR2, w_iSq, w_seqL, w_seqT, w_lenT, w_lenL, w_lenF, w_max, w_min, w_gSub, w_for, w_isi, w_if, w_tupleL, w_tupleT, w_listL, w_listT, w_listNT, w_listNL, w_neg, w_negI, w_eListR1, w_iZpA, w_iZp3A, w_iEnA, w_zpTT, w_zpTL, w_zpLT, w_zpLL, w_enAL, w_enAT, w_isN, w_isT, w_nisT, w_isB, w_nisB, w_isI, w_nisI, w_isL, w_nisL, w_gT2, w_gT3, w_intB, w_intI, w_eMake, w_fld1, w_prop1, w_meth1, w_sub1, w_or2a1, w_own, w_inO, w_eIf, w_eqI, w_neI, w_eqB, w_neB, isi_int_int, isi_int_bl, isi_int_non, isi_int_str, isi_int_lst, isi_int_tup, isi_int_dct, isi_bool_int, isi_bool_bl, isi_bool_non, isi_bool_str, isi_bool_lst, isi_bool_tup, isi_bool_dct, isi_str_int, isi_str_bl, isi_str_non, isi_str_str, isi_str_lst, isi_str_tup, isi_str_dct, isi_list_int, isi_list_bl, isi_list_non, isi_list_str, isi_list_lst, isi_list_tup, isi_list_dct, isi_tuple_int, isi_tuple_bl, isi_tuple_non, isi_tuple_str, isi_tuple_lst, isi_tuple_tup, isi_tuple_dct, isi_dict_int, isi_dict_bl, isi_dict_non, isi_dict_str, isi_dict_lst, isi_dict_tup, isi_dict_dct, isi_lt_int, isi_o_int, isi_lt_bl, isi_o_bl, isi_lt_non, isi_o_non, isi_lt_str, isi_o_str, isi_lt_lst, isi_o_lst, isi_lt_tup, isi_o_tup, isi_lt_dct, isi_o_dct, isi_own, mapR_len, rngD_length, enumD_mapR, zip_mapR, zip3_mapR, rng0, rngA, List.length_map, startD, wipeD, List.map_cons, List.map_nil, List.length_cons, List.length_nil, List.replicate, List.cons_append, List.nil_append, List.append_nil, List.getElem?_cons_zero, List.getElem?_cons_succ, List.set_cons_succ, List.set_cons_zero, Bool.not_true, Bool.not_false, if_true, if_false, Bool.false_eq_true, decide_true, decide_false, true_and, and_true, and_self, and_imp, Int.zero_add, le2, le3, le4, le1, le0, Nat.sub_zero, Bool.true_and, Bool.and_true, Bool.false_and, Bool.and_false, Bool.true_or, Bool.false_or, Bool.or_false, Bool.or_true, beq_self_eq_true, not_true_eq_false, not_false_eq_true, decide_eq_true_eq, fldC1, ofC'1, par2_2, par3_3, w_par2E, w_par3E, w_slD, w_slF, w_eSlice, w_eNoP, w_eP, w_intO, w_gT21, w_zpLLT, w_truO1, w_binO, w_ninO, w_eCM, w_eqLL, w_neLL, w_eqTT, w_neTT, lcY_nil, lcY_cons, w_all2, at2_0, at2_1, at3_0, at3_1, at3_2, at4_0, at4_1, at4_2, at4_3, itm_some, ixLE, ixFE, ixTE, ixO0, setO0, put_some, ix2_0, ix2_1, ix4_0, ix4_1, ix4_2, ix4_3, false_and, and_false, implies_true, w_eClr, w_slAL, w_slAF, w_seqG, w_lenG, w_enAG, w_tupleG, ixGE, isi_lt_G, w_nisN, w_binI, w_eApp, w_eMakeF, isLO_b, ix_b, augIE, w_eMv, w_one, okTg_self, at_behind, set_behind, Nat.reduceAdd, Int.reduceLT, Int.reduceLE, Int.reduceToNat, Nat.reduceLT, Nat.reduceLeDiff, Nat.reduceEqDiff, Int.reduceAbs, Int.reduceAdd, Int.reduceEq, Int.reduceNeg, Int.reduceSub, Int.reduceMul, Nat.reduceSub, Int.cast_ofNat_Int, Int.natCast_zero, Int.natCast_one, h, belowD])
theorem is_col_no {d : D} {n : Int} (h : ∀ {P : D → Sto → Prop}, W (g_is_integer A [d]) st P = P (.bl false) st) {P : D → Sto → Prop} : W (g_is_colour A [d, .int n]) st P = P (.bl false) st := callE rfl (by
  unfold b_is_colour
  simp only [w_bind, w_pure, w_var, w_c, w_op2, w_nil, w_cons, w_tup, w_lst, w_newL, w_sub, w_add, w_mod, w_divE, w_powE, w_mulE, w_cmp, w_bD, w_eB, w_eTru, w_truB, w_ch, w_tand, w_tor, w_tnot, w_and, w_or, w_not, DL.w_next, w_ret, w_sif, w_expr, w_gN, w_asg, w_eCall, w_seq, goOn_nx, goOn_rt, w_lc, w_lcN, w_iR1, w_iR2, w_iSq, w_seqL, w_seqT, w_lenT, w_lenL, w_lenF, w_max, w_min, w_gSub, w_for, w_isi, w_if, w_tupleL, w_tupleT, w_listL, w_listT, w_listNT, w_listNL, w_neg, w_negI, w_eListR1, w_iZpA, w_iZp3A, w_iEnA, w_zpTT, w_zpTL, w_zpLT, w_zpLL, w_enAL, w_enAT, w_isN, w_isT, w_nisT, w_isB, w_nisB, w_isI, w_nisI, w_isL, w_nisL, w_gT2, w_gT3, w_intB, w_intI, w_eMake, w_fld1, w_prop1, w_meth1, w_sub1, w_or2a1, w_own, w_inO, w_eIf, w_eqI, w_neI, w_eqB, w_neB, isi_int_int, isi_int_bl, isi_int_non, isi_int_str, isi_int_lst, isi_int_tup, isi_int_dct, isi_bool_int, isi_bool_bl, isi_bool_non, isi_bool_str, isi_bool_lst, isi_bool_tup, isi_bool_dct, isi_str_int, isi_str_bl, isi_str_non, isi_str_str, isi_str_lst, isi_str_tup, isi_str_dct, isi_list_int, isi_list_bl, isi_list_non, isi_list_str, isi_list_lst, isi_list_tup, isi_list_dct, isi_tuple_int, isi_tuple_bl, isi_tuple_non, isi_tuple_str, isi_tuple_lst, isi_tuple_tup, isi_tuple_dct, isi_dict_int, isi_dict_bl, isi_dict_non, isi_dict_str, isi_dict_lst, isi_dict_tup, isi_dict_dct, isi_lt_int, isi_o_int, isi_lt_bl, isi_o_bl, isi_lt_non, isi_o_non, isi_lt_str, isi_o_str, isi_lt_lst, isi_o_lst, isi_lt_tup, isi_o_tup, isi_lt_dct, isi_o_dct, isi_own, mapR_len, rngD_length, enumD_mapR, zip_mapR, zip3_mapR, rng0, rngA, List.length_map, startD, wipeD, List.map_cons, List.map_nil, List.length_cons, List.length_nil, List.replicate, List.cons_append, List.nil_append, List.append_nil, List.getElem?_cons_zero, List.getElem?_cons_succ, List.set_cons_succ, List.set_cons_zero, Bool.not_true, Bool.not_false, if_true, if_false, Bool.false_eq_true, decide_true, decide_false, true_and, and_true, and_self, and_imp, Int.zero_add, le2, le3, le4, le1, le0, Nat.sub_zero, Bool.true_and, Bool.and_true, Bool.false_and, Bool.and_false, Bool.true_or, Bool.false_or, Bool.or_false, Bool.or_true, beq_self_eq_true, not_true_eq_false, not_false_eq_true, decide_eq_true_eq, fldC1, ofC'1, par2_2, par3_3, w_par2E, w_par3E, w_slD, w_slF, w_eSlice, w_eNoP, w_eP, w_intO, w_gT21, w_zpLLT, w_truO1, w_binO, w_ninO, w_eCM, w_eqLL, w_neLL, w_eqTT, w_neTT, lcY_nil, lcY_cons, w_all2, at2_0, at2_1, at3_0, at3_1, at3_2, at4_0, at4_1, at4_2, at4_3, itm_some, ixLE, ixFE, ixTE, ixO0, setO0, put_some, ix2_0, ix2_1, ix4_0, ix4_1, ix4_2, ix4_3, false_and, and_false, implies_true, w_eClr, w_slAL, w_slAF, w_seqG, w_lenG, w_enAG, w_tupleG, ixGE, isi_lt_G, w_nisN, w_binI, w_eApp, w_eMakeF, isLO_b, ix_b, augIE, w_eMv, w_one, okTg_self, at_behind, set_behind, Nat.reduceAdd, Int.reduceLT, Int.reduceLE, Int.reduceToNat, Nat.reduceLT, Nat.reduceLeDiff, Nat.reduceEqDiff, Int.reduceAbs, Int.reduceAdd, Int.reduceEq, Int.reduceNeg, Int.reduceSub, Int.reduceMul, Nat.reduceSub, Int.cast_ofNat_Int, Int.natCast_zero, Int.natCast_one, h, belowD])
theorem is_seq_l {x : List D} {P : D → Sto → Prop} : W (g_is_sequence A [.lst x]) st P = P (.bl true) st := callE rfl (by unfold b_is_sequence; simp only [w_bind, w_pure, w_var, w_c, w_op2, w_nil, w_cons, w_tup, w_lst, w_newL, w_sub, w_add, w_mod, w_divE, w_powE, w_mulE, w_cmp, w_bD, w_eB, w_eTru, w_truB, w_ch, w_tand, w_tor, w_tnot, w_and, w_or, w_not, DL.w_next, w_ret, w_sif, w_expr, w_gN, w_asg, w_eCall, w_seq, goOn_nx, goOn_rt, w_lc, w_lcN, w_iR1, w_iR2, w_iSq, w_seqL, w_seqT, w_lenT, w_lenL, w_lenF, w_max, w_min, w_gSub, w_for, w_isi, w_if, w_tupleL, w_tupleT, w_listL, w_listT, w_listNT, w_listNL, w_neg, w_negI, w_eListR1, w_iZpA, w_iZp3A, w_iEnA, w_zpTT, w_zpTL, w_zpLT, w_zpLL, w_enAL, w_enAT, w_isN, w_isT, w_nisT, w_isB, w_nisB, w_isI, w_nisI, w_isL, w_nisL, w_gT2, w_gT3, w_intB, w_intI, w_eMake, w_fld1, w_prop1, w_meth1, w_sub1, w_or2a1, w_own, w_inO, w_eIf, w_eqI, w_neI, w_eqB, w_neB, isi_int_int, isi_int_bl, isi_int_non, isi_int_str, isi_int_lst, isi_int_tup, isi_int_dct, isi_bool_int, isi_bool_bl, isi_bool_non, isi_bool_str, isi_bool_lst, isi_bool_tup, isi_bool_dct, isi_str_int, isi_str_bl, isi_str_non, isi_str_str, isi_str_lst, isi_str_tup, isi_str_dct, isi_list_int, isi_list_bl, isi_list_non, isi_list_str, isi_list_lst, isi_list_tup, isi_list_dct, isi_tuple_int, isi_tuple_bl, isi_tuple_non, isi_tuple_str, isi_tuple_lst, isi_tuple_tup, isi_tuple_dct, isi_dict_int, isi_dict_bl, isi_dict_non, isi_dict_str, isi_dict_lst, isi_dict_tup, isi_dict_dct, isi_lt_int, isi_o_int, isi_lt_bl, isi_o_bl, isi_lt_non, isi_o_non, isi_lt_str, isi_o_str, isi_lt_lst, isi_o_lst, isi_lt_tup, isi_o_tup, isi_lt_dct, isi_o_dct, isi_own, mapR_len, rngD_length, enumD_mapR, zip_mapR, zip3_mapR, rng0, rngA, List.length_map, startD, wipeD, List.map_cons, List.map_nil, List.length_cons, List.length_nil, List.replicate, List.cons_append, List.nil_append, List.append_nil, List.getElem?_cons_zero, List.getElem?_cons_succ, List.set_cons_succ, List.set_cons_zero, Bool.not_true, Bool.not_false, if_true, if_false, Bool.false_eq_true, decide_true, decide_false, true_and, and_true, and_self, and_imp, Int.zero_add, le2, le3, le4, le1, le0, Nat.sub_zero, Bool.true_and, Bool.and_true, Bool.false_and, Bool.and_false, Bool.true_or, Bool.false_or, Bool.or_false, Bool.or_true, beq_self_eq_true, not_true_eq_false, not_false_eq_true, decide_eq_true_eq, fldC1, ofC'1, par2_2, par3_3, w_par2E, w_par3E, w_slD, w_slF, w_eSlice, w_eNoP, w_eP, w_intO, w_gT21, w_zpLLT, w_truO1, w_binO, w_ninO, w_eCM, w_eqLL, w_neLL, w_eqTT, w_neTT, lcY_nil, lcY_cons, w_all2, at2_0, at2_1, at3_0, at3_1, at3_2, at4_0, at4_1, at4_2, at4_3, itm_some, ixLE, ixFE, ixTE, ixO0, setO0, put_some, ix2_0, ix2_1, ix4_0, ix4_1, ix4_2, ix4_3, false_and, and_false, implies_true, w_eClr, w_slAL, w_slAF, w_seqG, w_lenG, w_enAG, w_tupleG, ixGE, isi_lt_G, w_nisN, w_binI, w_eApp, w_eMakeF, isLO_b, ix_b, augIE, w_eMv, w_one, okTg_self, at_behind, set_behind, Nat.reduceAdd, Int.reduceLT, Int.reduceLE, Int.reduceToNat, Nat.reduceLT, Nat.reduceLeDiff, Nat.reduceEqDiff, Int.reduceAbs, Int.reduceAdd, Int.reduceEq, Int.reduceNeg, Int.reduceSub, Int.reduceMul, Nat.reduceSub, Int.cast_ofNat_Int, Int.natCast_zero, Int.natCast_one, belowD])
theorem is_seq_t {x : List D} {P : D → Sto → Prop} : W (g_is_sequence A [.tup x]) st P = P (.bl true) st := callE rfl (by unfold b_is_sequence; simp only [w_bind, w_pure, w_var, w_c, w_op2, w_nil, w_cons, w_tup, w_lst, w_newL, w_sub, w_add, w_mod, w_divE, w_powE, w_mulE, w_cmp, w_bD, w_eB, w_eTru, w_truB, w_ch, w_tand, w_tor, w_tnot, w_and, w_or, w_not, DL.w_next, w_ret, w_sif, w_expr, w_gN, w_asg, w_eCall, w_seq, goOn_nx, goOn_rt, w_lc, w_lcN, w_iR1, w_iR2, w_iSq, w_seqL, w_seqT, w_lenT, w_lenL, w_lenF, w_max, w_min, w_gSub, w_for, w_isi, w_if, w_tupleL, w_tupleT, w_listL, w_listT, w_listNT, w_listNL, w_neg, w_negI, w_eListR1, w_iZpA, w_iZp3A, w_iEnA, w_zpTT, w_zpTL, w_zpLT, w_zpLL, w_enAL, w_enAT, w_isN, w_isT, w_nisT, w_isB, w_nisB, w_isI, w_nisI, w_isL, w_nisL, w_gT2, w_gT3, w_intB, w_intI, w_eMake, w_fld1, w_prop1, w_meth1, w_sub1, w_or2a1, w_own, w_inO, w_eIf, w_eqI, w_neI, w_eqB, w_neB, isi_int_int, isi_int_bl, isi_int_non, isi_int_str, isi_int_lst, isi_int_tup, isi_int_dct, isi_bool_int, isi_bool_bl, isi_bool_non, isi_bool_str, isi_bool_lst, isi_bool_tup, isi_bool_dct, isi_str_int, isi_str_bl, isi_str_non, isi_str_str, isi_str_lst, isi_str_tup, isi_str_dct, isi_list_int, isi_list_bl, isi_list_non, isi_list_str, isi_list_lst, isi_list_tup, isi_list_dct, isi_tuple_int, isi_tuple_bl, isi_tuple_non, isi_tuple_str, isi_tuple_lst, isi_tuple_tup, isi_tuple_dct, isi_dict_int, isi_dict_bl, isi_dict_non, isi_dict_str, isi_dict_lst, isi_dict_tup, isi_dict_dct, isi_lt_int, isi_o_int, isi_lt_bl, isi_o_bl, isi_lt_non, isi_o_non, isi_lt_str, isi_o_str, isi_lt_lst, isi_o_lst, isi_lt_tup, isi_o_tup, isi_lt_dct, isi_o_dct, isi_own, mapR_len, rngD_length, enumD_mapR, zip_mapR, zip3_mapR, rng0, rngA, List.length_map, startD, wipeD, List.map_cons, List.map_nil, List.length_cons, List.length_nil, List.replicate, List.cons_append, List.nil_append, List.append_nil, List.getElem?_cons_zero, List.getElem?_cons_succ, List.set_cons_succ, List.set_cons_zero, Bool.not_true, Bool.not_false, if_true, if_false, Bool.false_eq_true, decide_true, decide_false, true_and, and_true, and_self, and_imp, Int.zero_add, le2, le3, le4, le1, le0, Nat.sub_zero, Bool.true_and, Bool.and_true, Bool.false_and, Bool.and_false, Bool.true_or, Bool.false_or, Bool.or_false, Bool.or_true, beq_self_eq_true, not_true_eq_false, not_false_eq_true, decide_eq_true_eq, fldC1, ofC'1, par2_2, par3_3, w_par2E, w_par3E, w_slD, w_slF, w_eSlice, w_eNoP, w_eP, w_intO, w_gT21, w_zpLLT, w_truO1, w_binO, w_ninO, w_eCM, w_eqLL, w_neLL, w_eqTT, w_neTT, lcY_nil, lcY_cons, w_all2, at2_0, at2_1, at3_0, at3_1, at3_2, at4_0, at4_1, at4_2, at4_3, itm_some, ixLE, ixFE, ixTE, ixO0, setO0, put_some, ix2_0, ix2_1, ix4_0, ix4_1, ix4_2, ix4_3, false_and, and_false, implies_true, w_eClr, w_slAL, w_slAF, w_seqG, w_lenG, w_enAG, w_tupleG, ixGE, isi_lt_G, w_nisN, w_binI, w_eApp, w_eMakeF, isLO_b, ix_b, augIE, w_eMv, w_one, okTg_self, at_behind, set_behind, Nat.reduceAdd, Int.reduceLT, Int.reduceLE, Int.reduceToNat, Nat.reduceLT, Nat.reduceLeDiff, Nat.reduceEqDiff, Int.reduceAbs, Int.reduceAdd, Int.reduceEq, Int.reduceNeg, Int.reduceSub, Int.reduceMul, Nat.reduceSub, Int.cast_ofNat_Int, Int.natCast_zero, Int.natCast_one, belowD])
/-! ### jars -/
theorem is_cnt_i {i : Int} {P : D → Sto → Prop} : W (g_is_count A [.int i]) st P = P (.bl (decide (0 ≤ i))) st := callE rfl (by
  unfold b_is_count
  simp only [w_bind, w_pure, w_var, w_c, w_op2, w_nil, w_cons, w_tup, w_lst, w_newL, w_sub, w_add, w_mod, w_divE, w_powE, w_mulE, w_cmp, w_bD, w_eB, w_eTru, w_truB, w_ch, w_tand, w_tor, w_tnot, w_and, w_or, w_not, DL.w_next, w_ret, w_sif, w_expr, w_gN, w_asg, w_eCall, w_seq, goOn_nx, goOn_rt, w_lc, w_lcN, w_iR1, w_iR2, w_iSq, w_seqL, w_seqT, w_lenT, w_lenL, w_lenF, w_max, w_min, w_gSub, w_for, w_isi, w_if, w_tupleL, w_tupleT, w_listL, w_listT, w_listNT, w_listNL, w_neg, w_negI, w_eListR1, w_iZpA, w_iZp3A, w_iEnA, w_zpTT, w_zpTL, w_zpLT, w_zpLL, w_enAL, w_enAT, w_isN, w_isT, w_nisT, w_isB, w_nisB, w_isI, w_nisI, w_isL, w_nisL, w_gT2, w_gT3, w_intB, w_intI, w_eMake, w_fld1, w_prop1, w_meth1, w_sub1, w_or2a1, w_own, w_inO, w_eIf, w_eqI, w_neI, w_eqB, w_neB, isi_int_int, isi_int_bl, isi_int_non, isi_int_str, isi_int_lst, isi_int_tup, isi_int_dct, isi_bool_int, isi_bool_bl, isi_bool_non, isi_bool_str, isi_bool_lst, isi_bool_tup, isi_bool_dct, isi_str_int, isi_str_bl, isi_str_non, isi_str_str, isi_str_lst, isi_str_tup, isi_str_dct, isi_list_int, isi_list_bl, isi_list_non, isi_list_str, isi_list_lst, isi_list_tup, isi_list_dct, isi_tuple_int, isi_tuple_bl, isi_tuple_non, isi_tuple_str, isi_tuple_lst, isi_tuple_tup, isi_tuple_dct, isi_dict_int, isi_dict_bl, isi_dict_non, isi_dict_str, isi_dict_lst, isi_dict_tup, isi_dict_dct, isi_lt_int, isi_o_int, isi_lt_bl, isi_o_bl, isi_lt_non, isi_o_non, isi_lt_str, isi_o_str, isi_lt_lst, isi_o_lst, isi_lt_tup, isi_o_tup, isi_lt_dct, isi_o_dct, isi_own, mapR_len, rngD_length, enumD_mapR, zip_mapR, zip3_mapR, rng0, rngA, List.length_map, startD, wipeD, List.map_cons, List.map_nil, List.length_cons, List.length_nil, List.replicate, List.cons_append, List.nil_append, List.append_nil, List.getElem?_cons_zero, List.getElem?_cons_succ, List.set_cons_succ, List.set_cons_zero, Bool.not_true, Bool.not_false, if_true, if_false, Bool.false_eq_true, decide_true, decide_false, true_and, and_true, and_self, and_imp, Int.zero_add, le2, le3, le4, le1, le0, Nat.sub_zero, Bool.true_and, Bool.and_true, Bool.false_and, Bool.and_false, Bool.true_or, Bool.false_or, Bool.or_false, Bool.or_true, beq_self_eq_true, not_true_eq_false, not_false_eq_true, decide_eq_true_eq, fldC1, ofC'1, par2_2, par3_3, w_par2E, w_par3E, w_slD, w_slF, w_eSlice, w_eNoP, w_eP, w_intO, w_gT21, w_zpLLT, w_truO1, w_binO, w_ninO, w_eCM, w_eqLL, w_neLL, w_eqTT, w_neTT, lcY_nil, lcY_cons, w_all2, at2_0, at2_1, at3_0, at3_1, at3_2, at4_0, at4_1, at4_2, at4_3, itm_some, ixLE, ixFE, ixTE, ixO0, setO0, put_some, ix2_0, ix2_1, ix4_0, ix4_1, ix4_2, ix4_3, false_and, and_false, implies_true, w_eClr, w_slAL, w_slAF, w_seqG, w_lenG, w_enAG, w_tupleG, ixGE, isi_lt_G, w_nisN, w_binI, w_eApp, w_eMakeF, isLO_b, ix_b, augIE, w_eMv, w_one, okTg_self, at_behind, set_behind, Nat.reduceAdd, Int.reduceLT, Int.reduceLE, Int.reduceToNat, Nat.reduceLT, Nat.reduceLeDiff, Nat.reduceEqDiff, Int.reduceAbs, Int.reduceAdd, Int.reduceEq, Int.reduceNeg, Int.reduceSub, Int.reduceMul, Nat.reduceSub, Int.cast_ofNat_Int, Int.natCast_zero, Int.natCast_one, is_int_i, belowD])
abbrev jarD (A : As) (n : Nat) (c : Nat → Int) : D := .ins A.C_Jar [("amounts", .tup (mapR n fun i => .int (c i)))]
theorem below_jar {k n : Nat} {c : Nat → Int} : belowD k (jarD A n c) = true := by simp only [unsetAll, belowE, List.set_cons_succ, List.set_cons_zero, List.all_cons, List.all_nil, belowO_some, belowO_none, belowD_G, belowD, belowDs, belowFs, belowC, belowDs_mapR, belowDs_map', belowDs_app', Bool.and_true, Bool.and_self, Bool.true_and, all_true', List.length_nil, List.length_cons, List.length_append, Nat.reduceAdd, Nat.reduceLT, decide_true, Nat.zero_lt_succ, Nat.lt_add_one, and_true, true_and]
theorem jar_init {n : Nat} {c : Nat → Int} {d : D} (hd : d = intsD n c ∨ d = tupsD n c) (hn : n ≤ 8) (hn1 : 1 ≤ n) (hc : ∀ i, i < n → 0 ≤ c i) :
    W (g_Jar_uuinituu A [.obj st.length, d]) (st ++ [.ins A.C_Jar []]) fun r s => r = .non ∧ s = st ++ [.ins A.C_Jar [("amounts", .tup (mapR n fun i => .int (c i)))]] := by
  refine w_callM rfl ?_
  unfold b_Jar_uuinituu
  have h1 : (1 : Int) ≤ (n : Nat) := by omega
  have h8 : ((n : Nat) : Int) ≤ 8 := by omega
  have hl : n ≤ sizeLine := line_le (by omega)
  have e : (mapR n fun i => decide (0 ≤ c i)).all id = true := all_mapR fun i hi => decide_eq_true (hc i hi)
  have L : ∀ {δ : En} {s : Sto} {P : List D → Sto → Prop}, W (lcM (gN 2) eYes (eCall (g_is_count A) (eCons (eVar 2) eNil)) [some (.obj st.length), some d, none] (mapR n fun i => .int (c i))) s P = P (mapR n fun i => .bl (decide (0 ≤ c i))) s := lcE fun i hi => by simp only [w_bind, w_pure, w_var, w_c, w_op2, w_nil, w_cons, w_tup, w_lst, w_newL, w_sub, w_add, w_mod, w_divE, w_powE, w_mulE, w_cmp, w_bD, w_eB, w_eTru, w_truB, w_ch, w_tand, w_tor, w_tnot, w_and, w_or, w_not, DL.w_next, w_ret, w_sif, w_expr, w_gN, w_asg, w_eCall, w_seq, goOn_nx, goOn_rt, w_lc, w_lcN, w_iR1, w_iR2, w_iSq, w_seqL, w_seqT, w_lenT, w_lenL, w_lenF, w_max, w_min, w_gSub, w_for, w_isi, w_if, w_tupleL, w_tupleT, w_listL, w_listT, w_listNT, w_listNL, w_neg, w_negI, w_eListR1, w_iZpA, w_iZp3A, w_iEnA, w_zpTT, w_zpTL, w_zpLT, w_zpLL, w_enAL, w_enAT, w_isN, w_isT, w_nisT, w_isB, w_nisB, w_isI, w_nisI, w_isL, w_nisL, w_gT2, w_gT3, w_intB, w_intI, w_eMake, w_fld1, w_prop1, w_meth1, w_sub1, w_or2a1, w_own, w_inO, w_eIf, w_eqI, w_neI, w_eqB, w_neB, isi_int_int, isi_int_bl, isi_int_non, isi_int_str, isi_int_lst, isi_int_tup, isi_int_dct, isi_bool_int, isi_bool_bl, isi_bool_non, isi_bool_str, isi_bool_lst, isi_bool_tup, isi_bool_dct, isi_str_int, isi_str_bl, isi_str_non, isi_str_str, isi_str_lst, isi_str_tup, isi_str_dct, isi_list_int, isi_list_bl, isi_list_non, isi_list_str, isi_list_lst, isi_list_tup, isi_list_dct, isi_tuple_int, isi_tuple_bl, isi_tuple_non, isi_tuple_str, isi_tuple_lst, isi_tuple_tup, isi_tuple_dct, isi_dict_int, isi_dict_bl, isi_dict_non, isi_dict_str, isi_dict_lst, isi_dict_tup, isi_dict_dct, isi_lt_int, isi_o_int, isi_lt_bl, isi_o_bl, isi_lt_non, isi_o_non, isi_lt_str, isi_o_str, isi_lt_lst, isi_o_lst, isi_lt_tup, isi_o_tup, isi_lt_dct, isi_o_dct, isi_own, mapR_len, rngD_length, enumD_mapR, zip_mapR, zip3_mapR, rng0, rngA, List.length_map, startD, wipeD, List.map_cons, List.map_nil, List.length_cons, List.length_nil, List.replicate, List.cons_append, List.nil_append, List.append_nil, List.getElem?_cons_zero, List.getElem?_cons_succ, List.set_cons_succ, List.set_cons_zero, Bool.not_true, Bool.not_false, if_true, if_false, Bool.false_eq_true, decide_true, decide_false, true_and, and_true, and_self, and_imp, Int.zero_add, le2, le3, le4, le1, le0, Nat.sub_zero, Bool.true_and, Bool.and_true, Bool.false_and, Bool.and_false, Bool.true_or, Bool.false_or, Bool.or_false, Bool.or_true, beq_self_eq_true, not_true_eq_false, not_false_eq_true, decide_eq_true_eq, fldC1, ofC'1, par2_2, par3_3, w_par2E, w_par3E, w_slD, w_slF, w_eSlice, w_eNoP, w_eP, w_intO, w_gT21, w_zpLLT, w_truO1, w_binO, w_ninO, w_eCM, w_eqLL, w_neLL, w_eqTT, w_neTT, lcY_nil, lcY_cons, w_all2, at2_0, at2_1, at3_0, at3_1, at3_2, at4_0, at4_1, at4_2, at4_3, itm_some, ixLE, ixFE, ixTE, ixO0, setO0, put_some, ix2_0, ix2_1, ix4_0, ix4_1, ix4_2, ix4_3, false_and, and_false, implies_true, w_eClr, w_slAL, w_slAF, w_seqG, w_lenG, w_enAG, w_tupleG, ixGE, isi_lt_G, w_nisN, w_binI, w_eApp, w_eMakeF, isLO_b, ix_b, augIE, w_eMv, w_one, okTg_self, at_behind, set_behind, Nat.reduceAdd, Int.reduceLT, Int.reduceLE, Int.reduceToNat, Nat.reduceLT, Nat.reduceLeDiff, Nat.reduceEqDiff, Int.reduceAbs, Int.reduceAdd, Int.reduceEq, Int.reduceNeg, Int.reduceSub, Int.reduceMul, Nat.reduceSub, Int.cast_ofNat_Int, Int.natCast_zero, Int.natCast_one, is_cnt_i]
  have fin : ∀ k, belowD k (.tup (mapR n fun i => .int (c i))) = true := fun k => below_tups
  rcases hd with rfl | rfl
  · simp only [w_bind, w_pure, w_var, w_c, w_op2, w_nil, w_cons, w_tup, w_lst, w_newL, w_sub, w_add, w_mod, w_divE, w_powE, w_mulE, w_cmp, w_bD, w_eB, w_eTru, w_truB, w_ch, w_tand, w_tor, w_tnot, w_and, w_or, w_not, DL.w_next, w_ret, w_sif, w_expr, w_gN, w_asg, w_eCall, w_seq, goOn_nx, goOn_rt, w_lc, w_lcN, w_iR1, w_iR2, w_iSq, w_seqL, w_seqT, w_lenT, w_lenL, w_lenF, w_max, w_min, w_gSub, w_for, w_isi, w_if, w_tupleL, w_tupleT, w_listL, w_listT, w_listNT, w_listNL, w_neg, w_negI, w_eListR1, w_iZpA, w_iZp3A, w_iEnA, w_zpTT, w_zpTL, w_zpLT, w_zpLL, w_enAL, w_enAT, w_isN, w_isT, w_nisT, w_isB, w_nisB, w_isI, w_nisI, w_isL, w_nisL, w_gT2, w_gT3, w_intB, w_intI, w_eMake, w_fld1, w_prop1, w_meth1, w_sub1, w_or2a1, w_own, w_inO, w_eIf, w_eqI, w_neI, w_eqB, w_neB, isi_int_int, isi_int_bl, isi_int_non, isi_int_str, isi_int_lst, isi_int_tup, isi_int_dct, isi_bool_int, isi_bool_bl, isi_bool_non, isi_bool_str, isi_bool_lst, isi_bool_tup, isi_bool_dct, isi_str_int, isi_str_bl, isi_str_non, isi_str_str, isi_str_lst, isi_str_tup, isi_str_dct, isi_list_int, isi_list_bl, isi_list_non, isi_list_str, isi_list_lst, isi_list_tup, isi_list_dct, isi_tuple_int, isi_tuple_bl, isi_tuple_non, isi_tuple_str, isi_tuple_lst, isi_tuple_tup, isi_tuple_dct, isi_dict_int, isi_dict_bl, isi_dict_non, isi_dict_str, isi_dict_lst, isi_dict_tup, isi_dict_dct, isi_lt_int, isi_o_int, isi_lt_bl, isi_o_bl, isi_lt_non, isi_o_non, isi_lt_str, isi_o_str, isi_lt_lst, isi_o_lst, isi_lt_tup, isi_o_tup, isi_lt_dct, isi_o_dct, isi_own, mapR_len, rngD_length, enumD_mapR, zip_mapR, zip3_mapR, rng0, rngA, List.length_map, startD, wipeD, List.map_cons, List.map_nil, List.length_cons, List.length_nil, List.replicate, List.cons_append, List.nil_append, List.append_nil, List.getElem?_cons_zero, List.getElem?_cons_succ, List.set_cons_succ, List.set_cons_zero, Bool.not_true, Bool.not_false, if_true, if_false, Bool.false_eq_true, decide_true, decide_false, true_and, and_true, and_self, and_imp, Int.zero_add, le2, le3, le4, le1, le0, Nat.sub_zero, Bool.true_and, Bool.and_true, Bool.false_and, Bool.and_false, Bool.true_or, Bool.false_or, Bool.or_false, Bool.or_true, beq_self_eq_true, not_true_eq_false, not_false_eq_true, decide_eq_true_eq, fldC1, ofC'1, par2_2, par3_3, w_par2E, w_par3E, w_slD, w_slF, w_eSlice, w_eNoP, w_eP, w_intO, w_gT21, w_zpLLT, w_truO1, w_binO, w_ninO, w_eCM, w_eqLL, w_neLL, w_eqTT, w_neTT, lcY_nil, lcY_cons, w_all2, at2_0, at2_1, at3_0, at3_1, at3_2, at4_0, at4_1, at4_2, at4_3, itm_some, ixLE, ixFE, ixTE, ixO0, setO0, put_some, ix2_0, ix2_1, ix4_0, ix4_1, ix4_2, ix4_3, false_and, and_false, implies_true, w_eClr, w_slAL, w_slAF, w_seqG, w_lenG, w_enAG, w_tupleG, ixGE, isi_lt_G, w_nisN, w_binI, w_eApp, w_eMakeF, isLO_b, ix_b, augIE, w_eMv, w_one, okTg_self, at_behind, set_behind, Nat.reduceAdd, Int.reduceLT, Int.reduceLE, Int.reduceToNat, Nat.reduceLT, Nat.reduceLeDiff, Nat.reduceEqDiff, Int.reduceAbs, Int.reduceAdd, Int.reduceEq, Int.reduceNeg, Int.reduceSub, Int.reduceMul, Nat.reduceSub, Int.cast_ofNat_Int, Int.natCast_zero, Int.natCast_one, is_seq_l, h1, h8, hl, L (δ := []), w_allL, e]
    refine w_fldP ?_
    simp only [w_bind, w_pure, w_var, w_c, w_op2, w_nil, w_cons, w_tup, w_lst, w_newL, w_sub, w_add, w_mod, w_divE, w_powE, w_mulE, w_cmp, w_bD, w_eB, w_eTru, w_truB, w_ch, w_tand, w_tor, w_tnot, w_and, w_or, w_not, DL.w_next, w_ret, w_sif, w_expr, w_gN, w_asg, w_eCall, w_seq, goOn_nx, goOn_rt, w_lc, w_lcN, w_iR1, w_iR2, w_iSq, w_seqL, w_seqT, w_lenT, w_lenL, w_lenF, w_max, w_min, w_gSub, w_for, w_isi, w_if, w_tupleL, w_tupleT, w_listL, w_listT, w_listNT, w_listNL, w_neg, w_negI, w_eListR1, w_iZpA, w_iZp3A, w_iEnA, w_zpTT, w_zpTL, w_zpLT, w_zpLL, w_enAL, w_enAT, w_isN, w_isT, w_nisT, w_isB, w_nisB, w_isI, w_nisI, w_isL, w_nisL, w_gT2, w_gT3, w_intB, w_intI, w_eMake, w_fld1, w_prop1, w_meth1, w_sub1, w_or2a1, w_own, w_inO, w_eIf, w_eqI, w_neI, w_eqB, w_neB, isi_int_int, isi_int_bl, isi_int_non, isi_int_str, isi_int_lst, isi_int_tup, isi_int_dct, isi_bool_int, isi_bool_bl, isi_bool_non, isi_bool_str, isi_bool_lst, isi_bool_tup, isi_bool_dct, isi_str_int, isi_str_bl, isi_str_non, isi_str_str, isi_str_lst, isi_str_tup, isi_str_dct, isi_list_int, isi_list_bl, isi_list_non, isi_list_str, isi_list_lst, isi_list_tup, isi_list_dct, isi_tuple_int, isi_tuple_bl, isi_tuple_non, isi_tuple_str, isi_tuple_lst, isi_tuple_tup, isi_tuple_dct, isi_dict_int, isi_dict_bl, isi_dict_non, isi_dict_str, isi_dict_lst, isi_dict_tup, isi_dict_dct, isi_lt_int, isi_o_int, isi_lt_bl, isi_o_bl, isi_lt_non, isi_o_non, isi_lt_str, isi_o_str, isi_lt_lst, isi_o_lst, isi_lt_tup, isi_o_tup, isi_lt_dct, isi_o_dct, isi_own, mapR_len, rngD_length, enumD_mapR, zip_mapR, zip3_mapR, rng0, rngA, List.length_map, startD, wipeD, List.map_cons, List.map_nil, List.length_cons, List.length_nil, List.replicate, List.cons_append, List.nil_append, List.append_nil, List.getElem?_cons_zero, List.getElem?_cons_succ, List.set_cons_succ, List.set_cons_zero, Bool.not_true, Bool.not_false, if_true, if_false, Bool.false_eq_true, decide_true, decide_false, true_and, and_true, and_self, and_imp, Int.zero_add, le2, le3, le4, le1, le0, Nat.sub_zero, Bool.true_and, Bool.and_true, Bool.false_and, Bool.and_false, Bool.true_or, Bool.false_or, Bool.or_false, Bool.or_true, beq_self_eq_true, not_true_eq_false, not_false_eq_true, decide_eq_true_eq, fldC1, ofC'1, par2_2, par3_3, w_par2E, w_par3E, w_slD, w_slF, w_eSlice, w_eNoP, w_eP, w_intO, w_gT21, w_zpLLT, w_truO1, w_binO, w_ninO, w_eCM, w_eqLL, w_neLL, w_eqTT, w_neTT, lcY_nil, lcY_cons, w_all2, at2_0, at2_1, at3_0, at3_1, at3_2, at4_0, at4_1, at4_2, at4_3, itm_some, ixLE, ixFE, ixTE, ixO0, setO0, put_some, ix2_0, ix2_1, ix4_0, ix4_1, ix4_2, ix4_3, false_and, and_false, implies_true, w_eClr, w_slAL, w_slAF, w_seqG, w_lenG, w_enAG, w_tupleG, ixGE, isi_lt_G, w_nisN, w_binI, w_eApp, w_eMakeF, isLO_b, ix_b, augIE, w_eMv, w_one, okTg_self, at_behind, set_behind, Nat.reduceAdd, Int.reduceLT, Int.reduceLE, Int.reduceToNat, Nat.reduceLT, Nat.reduceLeDiff, Nat.reduceEqDiff, Int.reduceAbs, Int.reduceAdd, Int.reduceEq, Int.reduceNeg, Int.reduceSub, Int.reduceMul, Nat.reduceSub, Int.cast_ofNat_Int, Int.natCast_zero, Int.natCast_one]
    refine ⟨_, rfl, last_at, ?_⟩
    rw [last_set]
    obtain ⟨t1, t2⟩ := init_end (st := st) (C := A.C_Jar) (fl := "amounts") fin
    refine ⟨t1, ?_⟩
    rw [ret_nx, t2]
    exact ⟨rfl, rfl⟩
  · simp only [w_bind, w_pure, w_var, w_c, w_op2, w_nil, w_cons, w_tup, w_lst, w_newL, w_sub, w_add, w_mod, w_divE, w_powE, w_mulE, w_cmp, w_bD, w_eB, w_eTru, w_truB, w_ch, w_tand, w_tor, w_tnot, w_and, w_or, w_not, DL.w_next, w_ret, w_sif, w_expr, w_gN, w_asg, w_eCall, w_seq, goOn_nx, goOn_rt, w_lc, w_lcN, w_iR1, w_iR2, w_iSq, w_seqL, w_seqT, w_lenT, w_lenL, w_lenF, w_max, w_min, w_gSub, w_for, w_isi, w_if, w_tupleL, w_tupleT, w_listL, w_listT, w_listNT, w_listNL, w_neg, w_negI, w_eListR1, w_iZpA, w_iZp3A, w_iEnA, w_zpTT, w_zpTL, w_zpLT, w_zpLL, w_enAL, w_enAT, w_isN, w_isT, w_nisT, w_isB, w_nisB, w_isI, w_nisI, w_isL, w_nisL, w_gT2, w_gT3, w_intB, w_intI, w_eMake, w_fld1, w_prop1, w_meth1, w_sub1, w_or2a1, w_own, w_inO, w_eIf, w_eqI, w_neI, w_eqB, w_neB, isi_int_int, isi_int_bl, isi_int_non, isi_int_str, isi_int_lst, isi_int_tup, isi_int_dct, isi_bool_int, isi_bool_bl, isi_bool_non, isi_bool_str, isi_bool_lst, isi_bool_tup, isi_bool_dct, isi_str_int, isi_str_bl, isi_str_non, isi_str_str, isi_str_lst, isi_str_tup, isi_str_dct, isi_list_int, isi_list_bl, isi_list_non, isi_list_str, isi_list_lst, isi_list_tup, isi_list_dct, isi_tuple_int, isi_tuple_bl, isi_tuple_non, isi_tuple_str, isi_tuple_lst, isi_tuple_tup, isi_tuple_dct, isi_dict_int, isi_dict_bl, isi_dict_non, isi_dict_str, isi_dict_lst, isi_dict_tup, isi_dict_dct, isi_lt_int, isi_o_int, isi_lt_bl, isi_o_bl, isi_lt_non, isi_o_non, isi_lt_str, isi_o_str, isi_lt_lst, isi_o_lst, isi_lt_tup, isi_o_tup, isi_lt_dct, isi_o_dct, isi_own, mapR_len, rngD_length, enumD_mapR, zip_mapR, zip3_mapR, rng0, rngA, List.length_map, startD, wipeD, List.map_cons, List.map_nil, List.length_cons, List.length_nil, List.replicate, List.cons_append, List.nil_append, List.append_nil, List.getElem?_cons_zero, List.getElem?_cons_succ, List.set_cons_succ, List.set_cons_zero, Bool.not_true, Bool.not_false, if_true, if_false, Bool.false_eq_true, decide_true, decide_false, true_and, and_true, and_self, and_imp, Int.zero_add, le2, le3, le4, le1, le0, Nat.sub_zero, Bool.true_and, Bool.and_true, Bool.false_and, Bool.and_false, Bool.true_or, Bool.false_or, Bool.or_false, Bool.or_true, beq_self_eq_true, not_true_eq_false, not_false_eq_true, decide_eq_true_eq, fldC1, ofC'1, par2_2, par3_3, w_par2E, w_par3E, w_slD, w_slF, w_eSlice, w_eNoP, w_eP, w_intO, w_gT21, w_zpLLT, w_truO1, w_binO, w_ninO, w_eCM, w_eqLL, w_neLL, w_eqTT, w_neTT, lcY_nil, lcY_cons, w_all2, at2_0, at2_1, at3_0, at3_1, at3_2, at4_0, at4_1, at4_2, at4_3, itm_some, ixLE, ixFE, ixTE, ixO0, setO0, put_some, ix2_0, ix2_1, ix4_0, ix4_1, ix4_2, ix4_3, false_and, and_false, implies_true, w_eClr, w_slAL, w_slAF, w_seqG, w_lenG, w_enAG, w_tupleG, ixGE, isi_lt_G, w_nisN, w_binI, w_eApp, w_eMakeF, isLO_b, ix_b, augIE, w_eMv, w_one, okTg_self, at_behind, set_behind, Nat.reduceAdd, Int.reduceLT, Int.reduceLE, Int.reduceToNat, Nat.reduceLT, Nat.reduceLeDiff, Nat.reduceEqDiff, Int.reduceAbs, Int.reduceAdd, Int.reduceEq, Int.reduceNeg, Int.reduceSub, Int.reduceMul, Nat.reduceSub, Int.cast_ofNat_Int, Int.natCast_zero, Int.natCast_one, is_seq_t, h1, h8, hl, L (δ := []), w_allL, e]
    refine w_fldP ?_
    simp only [w_bind, w_pure, w_var, w_c, w_op2, w_nil, w_cons, w_tup, w_lst, w_newL, w_sub, w_add, w_mod, w_divE, w_powE, w_mulE, w_cmp, w_bD, w_eB, w_eTru, w_truB, w_ch, w_tand, w_tor, w_tnot, w_and, w_or, w_not, DL.w_next, w_ret, w_sif, w_expr, w_gN, w_asg, w_eCall, w_seq, goOn_nx, goOn_rt, w_lc, w_lcN, w_iR1, w_iR2, w_iSq, w_seqL, w_seqT, w_lenT, w_lenL, w_lenF, w_max, w_min, w_gSub, w_for, w_isi, w_if, w_tupleL, w_tupleT, w_listL, w_listT, w_listNT, w_listNL, w_neg, w_negI, w_eListR1, w_iZpA, w_iZp3A, w_iEnA, w_zpTT, w_zpTL, w_zpLT, w_zpLL, w_enAL, w_enAT, w_isN, w_isT, w_nisT, w_isB, w_nisB, w_isI, w_nisI, w_isL, w_nisL, w_gT2, w_gT3, w_intB, w_intI, w_eMake, w_fld1, w_prop1, w_meth1, w_sub1, w_or2a1, w_own, w_inO, w_eIf, w_eqI, w_neI, w_eqB, w_neB, isi_int_int, isi_int_bl, isi_int_non, isi_int_str, isi_int_lst, isi_int_tup, isi_int_dct, isi_bool_int, isi_bool_bl, isi_bool_non, isi_bool_str, isi_bool_lst, isi_bool_tup, isi_bool_dct, isi_str_int, isi_str_bl, isi_str_non, isi_str_str, isi_str_lst, isi_str_tup, isi_str_dct, isi_list_int, isi_list_bl, isi_list_non, isi_list_str, isi_list_lst, isi_list_tup, isi_list_dct, isi_tuple_int, isi_tuple_bl, isi_tuple_non, isi_tuple_str, isi_tuple_lst, isi_tuple_tup, isi_tuple_dct, isi_dict_int, isi_dict_bl, isi_dict_non, isi_dict_str, isi_dict_lst, isi_dict_tup, isi_dict_dct, isi_lt_int, isi_o_int, isi_lt_bl, isi_o_bl, isi_lt_non, isi_o_non, isi_lt_str, isi_o_str, isi_lt_lst, isi_o_lst, isi_lt_tup, isi_o_tup, isi_lt_dct, isi_o_dct, isi_own, mapR_len, rngD_length, enumD_mapR, zip_mapR, zip3_mapR, rng0, rngA, List.length_map, startD, wipeD, List.map_cons, List.map_nil, List.length_cons, List.length_nil, List.replicate, List.cons_append, List.nil_append, List.append_nil, List.getElem?_cons_zero, List.getElem?_cons_succ, List.set_cons_succ, List.set_cons_zero, Bool.not_true, Bool.not_false, if_true, if_false, Bool.false_eq_true, decide_true, decide_false, true_and, and_true, and_self, and_imp, Int.zero_add, le2, le3, le4, le1, le0, Nat.sub_zero, Bool.true_and, Bool.and_true, Bool.false_and, Bool.and_false, Bool.true_or, Bool.false_or, Bool.or_false, Bool.or_true, beq_self_eq_true, not_true_eq_false, not_false_eq_true, decide_eq_true_eq, fldC1, ofC'1, par2_2, par3_3, w_par2E, w_par3E, w_slD, w_slF, w_eSlice, w_eNoP, w_eP, w_intO, w_gT21, w_zpLLT, w_truO1, w_binO, w_ninO, w_eCM, w_eqLL, w_neLL, w_eqTT, w_neTT, lcY_nil, lcY_cons, w_all2, at2_0, at2_1, at3_0, at3_1, at3_2, at4_0, at4_1, at4_2, at4_3, itm_some, ixLE, ixFE, ixTE, ixO0, setO0, put_some, ix2_0, ix2_1, ix4_0, ix4_1, ix4_2, ix4_3, false_and, and_false, implies_true, w_eClr, w_slAL, w_slAF, w_seqG, w_lenG, w_enAG, w_tupleG, ixGE, isi_lt_G, w_nisN, w_binI, w_eApp, w_eMakeF, isLO_b, ix_b, augIE, w_eMv, w_one, okTg_self, at_behind, set_behind, Nat.reduceAdd, Int.reduceLT, Int.reduceLE, Int.reduceToNat, Nat.reduceLT, Nat.reduceLeDiff, Nat.reduceEqDiff, Int.reduceAbs, Int.reduceAdd, Int.reduceEq, Int.reduceNeg, Int.reduceSub, Int.reduceMul, Nat.reduceSub, Int.cast_ofNat_Int, Int.natCast_zero, Int.natCast_one]
    refine ⟨_, rfl, last_at, ?_⟩
    rw [last_set]
    obtain ⟨t1, t2⟩ := init_end (st := st) (C := A.C_Jar) (fl := "amounts") fin
    refine ⟨t1, ?_⟩
    rw [ret_nx, t2]
    exact ⟨rfl, rfl⟩
theorem jar_make {n : Nat} {c : Nat → Int} (hn : n ≤ 8) (hn1 : 1 ≤ n) (hc : ∀ i, i < n → 0 ≤ c i) {P : D → Sto → Prop} : W (makeM A.C_Jar (g_Jar_uuinituu A) [.lst (mapR n fun i => .int (c i))]) st P = P (jarD A n c) st :=
  w_make1 (fun k => below_tups) (jar_init (.inl rfl) hn hn1 hc)
theorem jar_makeT {n : Nat} {c : Nat → Int} (hn : n ≤ 8) (hn1 : 1 ≤ n) (hc : ∀ i, i < n → 0 ≤ c i) {P : D → Sto → Prop} : W (makeM A.C_Jar (g_Jar_uuinituu A) [.tup (mapR n fun i => .int (c i))]) st P = P (jarD A n c) st :=
  w_make1 (fun k => below_tups) (jar_init (.inr rfl) hn hn1 hc)
theorem jar_size {n : Nat} {c : Nat → Int} {P : D → Sto → Prop} : W (g_Jar_size A [jarD A n c]) st P = P (.int (n : Nat)) st := callE rfl (by unfold b_Jar_size; simp only [w_bind, w_pure, w_var, w_c, w_op2, w_nil, w_cons, w_tup, w_lst, w_newL, w_sub, w_add, w_mod, w_divE, w_powE, w_mulE, w_cmp, w_bD, w_eB, w_eTru, w_truB, w_ch, w_tand, w_tor, w_tnot, w_and, w_or, w_not, DL.w_next, w_ret, w_sif, w_expr, w_gN, w_asg, w_eCall, w_seq, goOn_nx, goOn_rt, w_lc, w_lcN, w_iR1, w_iR2, w_iSq, w_seqL, w_seqT, w_lenT, w_lenL, w_lenF, w_max, w_min, w_gSub, w_for, w_isi, w_if, w_tupleL, w_tupleT, w_listL, w_listT, w_listNT, w_listNL, w_neg, w_negI, w_eListR1, w_iZpA, w_iZp3A, w_iEnA, w_zpTT, w_zpTL, w_zpLT, w_zpLL, w_enAL, w_enAT, w_isN, w_isT, w_nisT, w_isB, w_nisB, w_isI, w_nisI, w_isL, w_nisL, w_gT2, w_gT3, w_intB, w_intI, w_eMake, w_fld1, w_prop1, w_meth1, w_sub1, w_or2a1, w_own, w_inO, w_eIf, w_eqI, w_neI, w_eqB, w_neB, isi_int_int, isi_int_bl, isi_int_non, isi_int_str, isi_int_lst, isi_int_tup, isi_int_dct, isi_bool_int, isi_bool_bl, isi_bool_non, isi_bool_str, isi_bool_lst, isi_bool_tup, isi_bool_dct, isi_str_int, isi_str_bl, isi_str_non, isi_str_str, isi_str_lst, isi_str_tup, isi_str_dct, isi_list_int, isi_list_bl, isi_list_non, isi_list_str, isi_list_lst, isi_list_tup, isi_list_dct, isi_tuple_int, isi_tuple_bl, isi_tuple_non, isi_tuple_str, isi_tuple_lst, isi_tuple_tup, isi_tuple_dct, isi_dict_int, isi_dict_bl, isi_dict_non, isi_dict_str, isi_dict_lst, isi_dict_tup, isi_dict_dct, isi_lt_int, isi_o_int, isi_lt_bl, isi_o_bl, isi_lt_non, isi_o_non, isi_lt_str, isi_o_str, isi_lt_lst, isi_o_lst, isi_lt_tup, isi_o_tup, isi_lt_dct, isi_o_dct, isi_own, mapR_len, rngD_length, enumD_mapR, zip_mapR, zip3_mapR, rng0, rngA, List.length_map, startD, wipeD, List.map_cons, List.map_nil, List.length_cons, List.length_nil, List.replicate, List.cons_append, List.nil_append, List.append_nil, List.getElem?_cons_zero, List.getElem?_cons_succ, List.set_cons_succ, List.set_cons_zero, Bool.not_true, Bool.not_false, if_true, if_false, Bool.false_eq_true, decide_true, decide_false, true_and, and_true, and_self, and_imp, Int.zero_add, le2, le3, le4, le1, le0, Nat.sub_zero, Bool.true_and, Bool.and_true, Bool.false_and, Bool.and_false, Bool.true_or, Bool.false_or, Bool.or_false, Bool.or_true, beq_self_eq_true, not_true_eq_false, not_false_eq_true, decide_eq_true_eq, fldC1, ofC'1, par2_2, par3_3, w_par2E, w_par3E, w_slD, w_slF, w_eSlice, w_eNoP, w_eP, w_intO, w_gT21, w_zpLLT, w_truO1, w_binO, w_ninO, w_eCM, w_eqLL, w_neLL, w_eqTT, w_neTT, lcY_nil, lcY_cons, w_all2, at2_0, at2_1, at3_0, at3_1, at3_2, at4_0, at4_1, at4_2, at4_3, itm_some, ixLE, ixFE, ixTE, ixO0, setO0, put_some, ix2_0, ix2_1, ix4_0, ix4_1, ix4_2, ix4_3, false_and, and_false, implies_true, w_eClr, w_slAL, w_slAF, w_seqG, w_lenG, w_enAG, w_tupleG, ixGE, isi_lt_G, w_nisN, w_binI, w_eApp, w_eMakeF, isLO_b, ix_b, augIE, w_eMv, w_one, okTg_self, at_behind, set_behind, Nat.reduceAdd, Int.reduceLT, Int.reduceLE, Int.reduceToNat, Nat.reduceLT, Nat.reduceLeDiff, Nat.reduceEqDiff, Int.reduceAbs, Int.reduceAdd, Int.reduceEq, Int.reduceNeg, Int.reduceSub, Int.reduceMul, Nat.reduceSub, Int.cast_ofNat_Int, Int.natCast_zero, Int.natCast_one, belowD])
theorem jar_counts {n : Nat} {c : Nat → Int} {P : D → Sto → Prop} : W (g_Jar_counts A [jarD A n c]) st P = P (intsD n c) st := callE rfl (by unfold b_Jar_counts; simp only [w_bind, w_pure, w_var, w_c, w_op2, w_nil, w_cons, w_tup, w_lst, w_newL, w_sub, w_add, w_mod, w_divE, w_powE, w_mulE, w_cmp, w_bD, w_eB, w_eTru, w_truB, w_ch, w_tand, w_tor, w_tnot, w_and, w_or, w_not, DL.w_next, w_ret, w_sif, w_expr, w_gN, w_asg, w_eCall, w_seq, goOn_nx, goOn_rt, w_lc, w_lcN, w_iR1, w_iR2, w_iSq, w_seqL, w_seqT, w_lenT, w_lenL, w_lenF, w_max, w_min, w_gSub, w_for, w_isi, w_if, w_tupleL, w_tupleT, w_listL, w_listT, w_listNT, w_listNL, w_neg, w_negI, w_eListR1, w_iZpA, w_iZp3A, w_iEnA, w_zpTT, w_zpTL, w_zpLT, w_zpLL, w_enAL, w_enAT, w_isN, w_isT, w_nisT, w_isB, w_nisB, w_isI, w_nisI, w_isL, w_nisL, w_gT2, w_gT3, w_intB, w_intI, w_eMake, w_fld1, w_prop1, w_meth1, w_sub1, w_or2a1, w_own, w_inO, w_eIf, w_eqI, w_neI, w_eqB, w_neB, isi_int_int, isi_int_bl, isi_int_non, isi_int_str, isi_int_lst, isi_int_tup, isi_int_dct, isi_bool_int, isi_bool_bl, isi_bool_non, isi_bool_str, isi_bool_lst, isi_bool_tup, isi_bool_dct, isi_str_int, isi_str_bl, isi_str_non, isi_str_str, isi_str_lst, isi_str_tup, isi_str_dct, isi_list_int, isi_list_bl, isi_list_non, isi_list_str, isi_list_lst, isi_list_tup, isi_list_dct, isi_tuple_int, isi_tuple_bl, isi_tuple_non, isi_tuple_str, isi_tuple_lst, isi_tuple_tup, isi_tuple_dct, isi_dict_int, isi_dict_bl, isi_dict_non, isi_dict_str, isi_dict_lst, isi_dict_tup, isi_dict_dct, isi_lt_int, isi_o_int, isi_lt_bl, isi_o_bl, isi_lt_non, isi_o_non, isi_lt_str, isi_o_str, isi_lt_lst, isi_o_lst, isi_lt_tup, isi_o_tup, isi_lt_dct, isi_o_dct, isi_own, mapR_len, rngD_length, enumD_mapR, zip_mapR, zip3_mapR, rng0, rngA, List.length_map, startD, wipeD, List.map_cons, List.map_nil, List.length_cons, List.length_nil, List.replicate, List.cons_append, List.nil_append, List.append_nil, List.getElem?_cons_zero, List.getElem?_cons_succ, List.set_cons_succ, List.set_cons_zero, Bool.not_true, Bool.not_false, if_true, if_false, Bool.false_eq_true, decide_true, decide_false, true_and, and_true, and_self, and_imp, Int.zero_add, le2, le3, le4, le1, le0, Nat.sub_zero, Bool.true_and, Bool.and_true, Bool.false_and, Bool.and_false, Bool.true_or, Bool.false_or, Bool.or_false, Bool.or_true, beq_self_eq_true, not_true_eq_false, not_false_eq_true, decide_eq_true_eq, fldC1, ofC'1, par2_2, par3_3, w_par2E, w_par3E, w_slD, w_slF, w_eSlice, w_eNoP, w_eP, w_intO, w_gT21, w_zpLLT, w_truO1, w_binO, w_ninO, w_eCM, w_eqLL, w_neLL, w_eqTT, w_neTT, lcY_nil, lcY_cons, w_all2, at2_0, at2_1, at3_0, at3_1, at3_2, at4_0, at4_1, at4_2, at4_3, itm_some, ixLE, ixFE, ixTE, ixO0, setO0, put_some, ix2_0, ix2_1, ix4_0, ix4_1, ix4_2, ix4_3, false_and, and_false, implies_true, w_eClr, w_slAL, w_slAF, w_seqG, w_lenG, w_enAG, w_tupleG, ixGE, isi_lt_G, w_nisN, w_binI, w_eApp, w_eMakeF, isLO_b, ix_b, augIE, w_eMv, w_one, okTg_self, at_behind, set_behind, Nat.reduceAdd, Int.reduceLT, Int.reduceLE, Int.reduceToNat, Nat.reduceLT, Nat.reduceLeDiff, Nat.reduceEqDiff, Int.reduceAbs, Int.reduceAdd, Int.reduceEq, Int.reduceNeg, Int.reduceSub, Int.reduceMul, Nat.reduceSub, Int.cast_ofNat_Int, Int.natCast_zero, Int.natCast_one, below_ints])
theorem lk_counts {d : D} : (("counts" : Str) == "amounts") = false := by decide
theorem jar_total {n : Nat} {c : Nat → Int} {P : D → Sto → Prop} : W (g_Jar_total A [jarD A n c]) st P = P (.int (mapR n c).sum) st := callE rfl (by unfold b_Jar_total; simp only [w_bind, w_pure, w_var, w_c, w_op2, w_nil, w_cons, w_tup, w_lst, w_newL, w_sub, w_add, w_mod, w_divE, w_powE, w_mulE, w_cmp, w_bD, w_eB, w_eTru, w_truB, w_ch, w_tand, w_tor, w_tnot, w_and, w_or, w_not, DL.w_next, w_ret, w_sif, w_expr, w_gN, w_asg, w_eCall, w_seq, goOn_nx, goOn_rt, w_lc, w_lcN, w_iR1, w_iR2, w_iSq, w_seqL, w_seqT, w_lenT, w_lenL, w_lenF, w_max, w_min, w_gSub, w_for, w_isi, w_if, w_tupleL, w_tupleT, w_listL, w_listT, w_listNT, w_listNL, w_neg, w_negI, w_eListR1, w_iZpA, w_iZp3A, w_iEnA, w_zpTT, w_zpTL, w_zpLT, w_zpLL, w_enAL, w_enAT, w_isN, w_isT, w_nisT, w_isB, w_nisB, w_isI, w_nisI, w_isL, w_nisL, w_gT2, w_gT3, w_intB, w_intI, w_eMake, w_fld1, w_prop1, w_meth1, w_sub1, w_or2a1, w_own, w_inO, w_eIf, w_eqI, w_neI, w_eqB, w_neB, isi_int_int, isi_int_bl, isi_int_non, isi_int_str, isi_int_lst, isi_int_tup, isi_int_dct, isi_bool_int, isi_bool_bl, isi_bool_non, isi_bool_str, isi_bool_lst, isi_bool_tup, isi_bool_dct, isi_str_int, isi_str_bl, isi_str_non, isi_str_str, isi_str_lst, isi_str_tup, isi_str_dct, isi_list_int, isi_list_bl, isi_list_non, isi_list_str, isi_list_lst, isi_list_tup, isi_list_dct, isi_tuple_int, isi_tuple_bl, isi_tuple_non, isi_tuple_str, isi_tuple_lst, isi_tuple_tup, isi_tuple_dct, isi_dict_int, isi_dict_bl, isi_dict_non, isi_dict_str, isi_dict_lst, isi_dict_tup, isi_dict_dct, isi_lt_int, isi_o_int, isi_lt_bl, isi_o_bl, isi_lt_non, isi_o_non, isi_lt_str, isi_o_str, isi_lt_lst, isi_o_lst, isi_lt_tup, isi_o_tup, isi_lt_dct, isi_o_dct, isi_own, mapR_len, rngD_length, enumD_mapR, zip_mapR, zip3_mapR, rng0, rngA, List.length_map, startD, wipeD, List.map_cons, List.map_nil, List.length_cons, List.length_nil, List.replicate, List.cons_append, List.nil_append, List.append_nil, List.getElem?_cons_zero, List.getElem?_cons_succ, List.set_cons_succ, List.set_cons_zero, Bool.not_true, Bool.not_false, if_true, if_false, Bool.false_eq_true, decide_true, decide_false, true_and, and_true, and_self, and_imp, Int.zero_add, le2, le3, le4, le1, le0, Nat.sub_zero, Bool.true_and, Bool.and_true, Bool.false_and, Bool.and_false, Bool.true_or, Bool.false_or, Bool.or_false, Bool.or_true, beq_self_eq_true, not_true_eq_false, not_false_eq_true, decide_eq_true_eq, fldC1, ofC'1, par2_2, par3_3, w_par2E, w_par3E, w_slD, w_slF, w_eSlice, w_eNoP, w_eP, w_intO, w_gT21, w_zpLLT, w_truO1, w_binO, w_ninO, w_eCM, w_eqLL, w_neLL, w_eqTT, w_neTT, lcY_nil, lcY_cons, w_all2, at2_0, at2_1, at3_0, at3_1, at3_2, at4_0, at4_1, at4_2, at4_3, itm_some, ixLE, ixFE, ixTE, ixO0, setO0, put_some, ix2_0, ix2_1, ix4_0, ix4_1, ix4_2, ix4_3, false_and, and_false, implies_true, w_eClr, w_slAL, w_slAF, w_seqG, w_lenG, w_enAG, w_tupleG, ixGE, isi_lt_G, w_nisN, w_binI, w_eApp, w_eMakeF, isLO_b, ix_b, augIE, w_eMv, w_one, okTg_self, at_behind, set_behind, Nat.reduceAdd, Int.reduceLT, Int.reduceLE, Int.reduceToNat, Nat.reduceLT, Nat.reduceLeDiff, Nat.reduceEqDiff, Int.reduceAbs, Int.reduceAdd, Int.reduceEq, Int.reduceNeg, Int.reduceSub, Int.reduceMul, Nat.reduceSub, Int.cast_ofNat_Int, Int.natCast_zero, Int.natCast_one, w_sumT, belowD])
theorem same_jars {n : Nat} {c c' : Nat → Int} {P : D → Sto → Prop} : W (g_need_same_size A [jarD A n c, jarD A n c']) st P = P .non st := callE rfl (by
  unfold b_need_same_size
  simp only [w_bind, w_pure, w_var, w_c, w_op2, w_nil, w_cons, w_tup, w_lst, w_newL, w_sub, w_add, w_mod, w_divE, w_powE, w_mulE, w_cmp, w_bD, w_eB, w_eTru, w_truB, w_ch, w_tand, w_tor, w_tnot, w_and, w_or, w_not, DL.w_next, w_ret, w_sif, w_expr, w_gN, w_asg, w_eCall, w_seq, goOn_nx, goOn_rt, w_lc, w_lcN, w_iR1, w_iR2, w_iSq, w_seqL, w_seqT, w_lenT, w_lenL, w_lenF, w_max, w_min, w_gSub, w_for, w_isi, w_if, w_tupleL, w_tupleT, w_listL, w_listT, w_listNT, w_listNL, w_neg, w_negI, w_eListR1, w_iZpA, w_iZp3A, w_iEnA, w_zpTT, w_zpTL, w_zpLT, w_zpLL, w_enAL, w_enAT, w_isN, w_isT, w_nisT, w_isB, w_nisB, w_isI, w_nisI, w_isL, w_nisL, w_gT2, w_gT3, w_intB, w_intI, w_eMake, w_fld1, w_prop1, w_meth1, w_sub1, w_or2a1, w_own, w_inO, w_eIf, w_eqI, w_neI, w_eqB, w_neB, isi_int_int, isi_int_bl, isi_int_non, isi_int_str, isi_int_lst, isi_int_tup, isi_int_dct, isi_bool_int, isi_bool_bl, isi_bool_non, isi_bool_str, isi_bool_lst, isi_bool_tup, isi_bool_dct, isi_str_int, isi_str_bl, isi_str_non, isi_str_str, isi_str_lst, isi_str_tup, isi_str_dct, isi_list_int, isi_list_bl, isi_list_non, isi_list_str, isi_list_lst, isi_list_tup, isi_list_dct, isi_tuple_int, isi_tuple_bl, isi_tuple_non, isi_tuple_str, isi_tuple_lst, isi_tuple_tup, isi_tuple_dct, isi_dict_int, isi_dict_bl, isi_dict_non, isi_dict_str, isi_dict_lst, isi_dict_tup, isi_dict_dct, isi_lt_int, isi_o_int, isi_lt_bl, isi_o_bl, isi_lt_non, isi_o_non, isi_lt_str, isi_o_str, isi_lt_lst, isi_o_lst, isi_lt_tup, isi_o_tup, isi_lt_dct, isi_o_dct, isi_own, mapR_len, rngD_length, enumD_mapR, zip_mapR, zip3_mapR, rng0, rngA, List.length_map, startD, wipeD, List.map_cons, List.map_nil, List.length_cons, List.length_nil, List.replicate, List.cons_append, List.nil_append, List.append_nil, List.getElem?_cons_zero, List.getElem?_cons_succ, List.set_cons_succ, List.set_cons_zero, Bool.not_true, Bool.not_false, if_true, if_false, Bool.false_eq_true, decide_true, decide_false, true_and, and_true, and_self, and_imp, Int.zero_add, le2, le3, le4, le1, le0, Nat.sub_zero, Bool.true_and, Bool.and_true, Bool.false_and, Bool.and_false, Bool.true_or, Bool.false_or, Bool.or_false, Bool.or_true, beq_self_eq_true, not_true_eq_false, not_false_eq_true, decide_eq_true_eq, fldC1, ofC'1, par2_2, par3_3, w_par2E, w_par3E, w_slD, w_slF, w_eSlice, w_eNoP, w_eP, w_intO, w_gT21, w_zpLLT, w_truO1, w_binO, w_ninO, w_eCM, w_eqLL, w_neLL, w_eqTT, w_neTT, lcY_nil, lcY_cons, w_all2, at2_0, at2_1, at3_0, at3_1, at3_2, at4_0, at4_1, at4_2, at4_3, itm_some, ixLE, ixFE, ixTE, ixO0, setO0, put_some, ix2_0, ix2_1, ix4_0, ix4_1, ix4_2, ix4_3, false_and, and_false, implies_true, w_eClr, w_slAL, w_slAF, w_seqG, w_lenG, w_enAG, w_tupleG, ixGE, isi_lt_G, w_nisN, w_binI, w_eApp, w_eMakeF, isLO_b, ix_b, augIE, w_eMv, w_one, okTg_self, at_behind, set_behind, Nat.reduceAdd, Int.reduceLT, Int.reduceLE, Int.reduceToNat, Nat.reduceLT, Nat.reduceLeDiff, Nat.reduceEqDiff, Int.reduceAbs, Int.reduceAdd, Int.reduceEq, Int.reduceNeg, Int.reduceSub, Int.reduceMul, Nat.reduceSub, Int.cast_ofNat_Int, Int.natCast_zero, Int.natCast_one, jar_size])
theorem jar_add {n : Nat} {c c' : Nat → Int} (hn : n ≤ 8) (hn1 : 1 ≤ n) (hc : ∀ i, i < n → 0 ≤ c i) (hc' : ∀ i, i < n → 0 ≤ c' i) {P : D → Sto → Prop} : W (g_Jar_uuadduu A [jarD A n c, jarD A n c']) st P = P (jarD A n fun i => c i + c' i) st := callE rfl (by
  unfold b_Jar_uuadduu
  have hl : n ≤ sizeLine := line_le (by omega)
  simp only [w_bind, w_pure, w_var, w_c, w_op2, w_nil, w_cons, w_tup, w_lst, w_newL, w_sub, w_add, w_mod, w_divE, w_powE, w_mulE, w_cmp, w_bD, w_eB, w_eTru, w_truB, w_ch, w_tand, w_tor, w_tnot, w_and, w_or, w_not, DL.w_next, w_ret, w_sif, w_expr, w_gN, w_asg, w_eCall, w_seq, goOn_nx, goOn_rt, w_lc, w_lcN, w_iR1, w_iR2, w_iSq, w_seqL, w_seqT, w_lenT, w_lenL, w_lenF, w_max, w_min, w_gSub, w_for, w_isi, w_if, w_tupleL, w_tupleT, w_listL, w_listT, w_listNT, w_listNL, w_neg, w_negI, w_eListR1, w_iZpA, w_iZp3A, w_iEnA, w_zpTT, w_zpTL, w_zpLT, w_zpLL, w_enAL, w_enAT, w_isN, w_isT, w_nisT, w_isB, w_nisB, w_isI, w_nisI, w_isL, w_nisL, w_gT2, w_gT3, w_intB, w_intI, w_eMake, w_fld1, w_prop1, w_meth1, w_sub1, w_or2a1, w_own, w_inO, w_eIf, w_eqI, w_neI, w_eqB, w_neB, isi_int_int, isi_int_bl, isi_int_non, isi_int_str, isi_int_lst, isi_int_tup, isi_int_dct, isi_bool_int, isi_bool_bl, isi_bool_non, isi_bool_str, isi_bool_lst, isi_bool_tup, isi_bool_dct, isi_str_int, isi_str_bl, isi_str_non, isi_str_str, isi_str_lst, isi_str_tup, isi_str_dct, isi_list_int, isi_list_bl, isi_list_non, isi_list_str, isi_list_lst, isi_list_tup, isi_list_dct, isi_tuple_int, isi_tuple_bl, isi_tuple_non, isi_tuple_str, isi_tuple_lst, isi_tuple_tup, isi_tuple_dct, isi_dict_int, isi_dict_bl, isi_dict_non, isi_dict_str, isi_dict_lst, isi_dict_tup, isi_dict_dct, isi_lt_int, isi_o_int, isi_lt_bl, isi_o_bl, isi_lt_non, isi_o_non, isi_lt_str, isi_o_str, isi_lt_lst, isi_o_lst, isi_lt_tup, isi_o_tup, isi_lt_dct, isi_o_dct, isi_own, mapR_len, rngD_length, enumD_mapR, zip_mapR, zip3_mapR, rng0, rngA, List.length_map, startD, wipeD, List.map_cons, List.map_nil, List.length_cons, List.length_nil, List.replicate, List.cons_append, List.nil_append, List.append_nil, List.getElem?_cons_zero, List.getElem?_cons_succ, List.set_cons_succ, List.set_cons_zero, Bool.not_true, Bool.not_false, if_true, if_false, Bool.false_eq_true, decide_true, decide_false, true_and, and_true, and_self, and_imp, Int.zero_add, le2, le3, le4, le1, le0, Nat.sub_zero, Bool.true_and, Bool.and_true, Bool.false_and, Bool.and_false, Bool.true_or, Bool.false_or, Bool.or_false, Bool.or_true, beq_self_eq_true, not_true_eq_false, not_false_eq_true, decide_eq_true_eq, fldC1, ofC'1, par2_2, par3_3, w_par2E, w_par3E, w_slD, w_slF, w_eSlice, w_eNoP, w_eP, w_intO, w_gT21, w_zpLLT, w_truO1, w_binO, w_ninO, w_eCM, w_eqLL, w_neLL, w_eqTT, w_neTT, lcY_nil, lcY_cons, w_all2, at2_0, at2_1, at3_0, at3_1, at3_2, at4_0, at4_1, at4_2, at4_3, itm_some, ixLE, ixFE, ixTE, ixO0, setO0, put_some, ix2_0, ix2_1, ix4_0, ix4_1, ix4_2, ix4_3, false_and, and_false, implies_true, w_eClr, w_slAL, w_slAF, w_seqG, w_lenG, w_enAG, w_tupleG, ixGE, isi_lt_G, w_nisN, w_binI, w_eApp, w_eMakeF, isLO_b, ix_b, augIE, w_eMv, w_one, okTg_self, at_behind, set_behind, Nat.reduceAdd, Int.reduceLT, Int.reduceLE, Int.reduceToNat, Nat.reduceLT, Nat.reduceLeDiff, Nat.reduceEqDiff, Int.reduceAbs, Int.reduceAdd, Int.reduceEq, Int.reduceNeg, Int.reduceSub, Int.reduceMul, Nat.reduceSub, Int.cast_ofNat_Int, Int.natCast_zero, Int.natCast_one, same_jars, hl]
  rw [lcE (f := fun i => .int (c i + c' i)) fun i hi => by simp only [w_bind, w_pure, w_var, w_c, w_op2, w_nil, w_cons, w_tup, w_lst, w_newL, w_sub, w_add, w_mod, w_divE, w_powE, w_mulE, w_cmp, w_bD, w_eB, w_eTru, w_truB, w_ch, w_tand, w_tor, w_tnot, w_and, w_or, w_not, DL.w_next, w_ret, w_sif, w_expr, w_gN, w_asg, w_eCall, w_seq, goOn_nx, goOn_rt, w_lc, w_lcN, w_iR1, w_iR2, w_iSq, w_seqL, w_seqT, w_lenT, w_lenL, w_lenF, w_max, w_min, w_gSub, w_for, w_isi, w_if, w_tupleL, w_tupleT, w_listL, w_listT, w_listNT, w_listNL, w_neg, w_negI, w_eListR1, w_iZpA, w_iZp3A, w_iEnA, w_zpTT, w_zpTL, w_zpLT, w_zpLL, w_enAL, w_enAT, w_isN, w_isT, w_nisT, w_isB, w_nisB, w_isI, w_nisI, w_isL, w_nisL, w_gT2, w_gT3, w_intB, w_intI, w_eMake, w_fld1, w_prop1, w_meth1, w_sub1, w_or2a1, w_own, w_inO, w_eIf, w_eqI, w_neI, w_eqB, w_neB, isi_int_int, isi_int_bl, isi_int_non, isi_int_str, isi_int_lst, isi_int_tup, isi_int_dct, isi_bool_int, isi_bool_bl, isi_bool_non, isi_bool_str, isi_bool_lst, isi_bool_tup, isi_bool_dct, isi_str_int, isi_str_bl, isi_str_non, isi_str_str, isi_str_lst, isi_str_tup, isi_str_dct, isi_list_int, isi_list_bl, isi_list_non, isi_list_str, isi_list_lst, isi_list_tup, isi_list_dct, isi_tuple_int, isi_tuple_bl, isi_tuple_non, isi_tuple_str, isi_tuple_lst, isi_tuple_tup, isi_tuple_dct, isi_dict_int, isi_dict_bl, isi_dict_non, isi_dict_str, isi_dict_lst, isi_dict_tup, isi_dict_dct, isi_lt_int, isi_o_int, isi_lt_bl, isi_o_bl, isi_lt_non, isi_o_non, isi_lt_str, isi_o_str, isi_lt_lst, isi_o_lst, isi_lt_tup, isi_o_tup, isi_lt_dct, isi_o_dct, isi_own, mapR_len, rngD_length, enumD_mapR, zip_mapR, zip3_mapR, rng0, rngA, List.length_map, startD, wipeD, List.map_cons, List.map_nil, List.length_cons, List.length_nil, List.replicate, List.cons_append, List.nil_append, List.append_nil, List.getElem?_cons_zero, List.getElem?_cons_succ, List.set_cons_succ, List.set_cons_zero, Bool.not_true, Bool.not_false, if_true, if_false, Bool.false_eq_true, decide_true, decide_false, true_and, and_true, and_self, and_imp, Int.zero_add, le2, le3, le4, le1, le0, Nat.sub_zero, Bool.true_and, Bool.and_true, Bool.false_and, Bool.and_false, Bool.true_or, Bool.false_or, Bool.or_false, Bool.or_true, beq_self_eq_true, not_true_eq_false, not_false_eq_true, decide_eq_true_eq, fldC1, ofC'1, par2_2, par3_3, w_par2E, w_par3E, w_slD, w_slF, w_eSlice, w_eNoP, w_eP, w_intO, w_gT21, w_zpLLT, w_truO1, w_binO, w_ninO, w_eCM, w_eqLL, w_neLL, w_eqTT, w_neTT, lcY_nil, lcY_cons, w_all2, at2_0, at2_1, at3_0, at3_1, at3_2, at4_0, at4_1, at4_2, at4_3, itm_some, ixLE, ixFE, ixTE, ixO0, setO0, put_some, ix2_0, ix2_1, ix4_0, ix4_1, ix4_2, ix4_3, false_and, and_false, implies_true, w_eClr, w_slAL, w_slAF, w_seqG, w_lenG, w_enAG, w_tupleG, ixGE, isi_lt_G, w_nisN, w_binI, w_eApp, w_eMakeF, isLO_b, ix_b, augIE, w_eMv, w_one, okTg_self, at_behind, set_behind, Nat.reduceAdd, Int.reduceLT, Int.reduceLE, Int.reduceToNat, Nat.reduceLT, Nat.reduceLeDiff, Nat.reduceEqDiff, Int.reduceAbs, Int.reduceAdd, Int.reduceEq, Int.reduceNeg, Int.reduceSub, Int.reduceMul, Nat.reduceSub, Int.cast_ofNat_Int, Int.natCast_zero, Int.natCast_one]]
  simp only [w_bind, w_pure, w_var, w_c, w_op2, w_nil, w_cons, w_tup, w_lst, w_newL, w_sub, w_add, w_mod, w_divE, w_powE, w_mulE, w_cmp, w_bD, w_eB, w_eTru, w_truB, w_ch, w_tand, w_tor, w_tnot, w_and, w_or, w_not, DL.w_next, w_ret, w_sif, w_expr, w_gN, w_asg, w_eCall, w_seq, goOn_nx, goOn_rt, w_lc, w_lcN, w_iR1, w_iR2, w_iSq, w_seqL, w_seqT, w_lenT, w_lenL, w_lenF, w_max, w_min, w_gSub, w_for, w_isi, w_if, w_tupleL, w_tupleT, w_listL, w_listT, w_listNT, w_listNL, w_neg, w_negI, w_eListR1, w_iZpA, w_iZp3A, w_iEnA, w_zpTT, w_zpTL, w_zpLT, w_zpLL, w_enAL, w_enAT, w_isN, w_isT, w_nisT, w_isB, w_nisB, w_isI, w_nisI, w_isL, w_nisL, w_gT2, w_gT3, w_intB, w_intI, w_eMake, w_fld1, w_prop1, w_meth1, w_sub1, w_or2a1, w_own, w_inO, w_eIf, w_eqI, w_neI, w_eqB, w_neB, isi_int_int, isi_int_bl, isi_int_non, isi_int_str, isi_int_lst, isi_int_tup, isi_int_dct, isi_bool_int, isi_bool_bl, isi_bool_non, isi_bool_str, isi_bool_lst, isi_bool_tup, isi_bool_dct, isi_str_int, isi_str_bl, isi_str_non, isi_str_str, isi_str_lst, isi_str_tup, isi_str_dct, isi_list_int, isi_list_bl, isi_list_non, isi_list_str, isi_list_lst, isi_list_tup, isi_list_dct, isi_tuple_int, isi_tuple_bl, isi_tuple_non, isi_tuple_str, isi_tuple_lst, isi_tuple_tup, isi_tuple_dct, isi_dict_int, isi_dict_bl, isi_dict_non, isi_dict_str, isi_dict_lst, isi_dict_tup, isi_dict_dct, isi_lt_int, isi_o_int, isi_lt_bl, isi_o_bl, isi_lt_non, isi_o_non, isi_lt_str, isi_o_str, isi_lt_lst, isi_o_lst, isi_lt_tup, isi_o_tup, isi_lt_dct, isi_o_dct, isi_own, mapR_len, rngD_length, enumD_mapR, zip_mapR, zip3_mapR, rng0, rngA, List.length_map, startD, wipeD, List.map_cons, List.map_nil, List.length_cons, List.length_nil, List.replicate, List.cons_append, List.nil_append, List.append_nil, List.getElem?_cons_zero, List.getElem?_cons_succ, List.set_cons_succ, List.set_cons_zero, Bool.not_true, Bool.not_false, if_true, if_false, Bool.false_eq_true, decide_true, decide_false, true_and, and_true, and_self, and_imp, Int.zero_add, le2, le3, le4, le1, le0, Nat.sub_zero, Bool.true_and, Bool.and_true, Bool.false_and, Bool.and_false, Bool.true_or, Bool.false_or, Bool.or_false, Bool.or_true, beq_self_eq_true, not_true_eq_false, not_false_eq_true, decide_eq_true_eq, fldC1, ofC'1, par2_2, par3_3, w_par2E, w_par3E, w_slD, w_slF, w_eSlice, w_eNoP, w_eP, w_intO, w_gT21, w_zpLLT, w_truO1, w_binO, w_ninO, w_eCM, w_eqLL, w_neLL, w_eqTT, w_neTT, lcY_nil, lcY_cons, w_all2, at2_0, at2_1, at3_0, at3_1, at3_2, at4_0, at4_1, at4_2, at4_3, itm_some, ixLE, ixFE, ixTE, ixO0, setO0, put_some, ix2_0, ix2_1, ix4_0, ix4_1, ix4_2, ix4_3, false_and, and_false, implies_true, w_eClr, w_slAL, w_slAF, w_seqG, w_lenG, w_enAG, w_tupleG, ixGE, isi_lt_G, w_nisN, w_binI, w_eApp, w_eMakeF, isLO_b, ix_b, augIE, w_eMv, w_one, okTg_self, at_behind, set_behind, Nat.reduceAdd, Int.reduceLT, Int.reduceLE, Int.reduceToNat, Nat.reduceLT, Nat.reduceLeDiff, Nat.reduceEqDiff, Int.reduceAbs, Int.reduceAdd, Int.reduceEq, Int.reduceNeg, Int.reduceSub, Int.reduceMul, Nat.reduceSub, Int.cast_ofNat_Int, Int.natCast_zero, Int.natCast_one, jar_make (c := fun i => c i + c' i) hn hn1 fun i hi => Int.add_nonneg (hc i hi) (hc' i hi)]
  exact below_jar)
/-! ### the pool of two -/
def cellQ (c z : Int) : Cell := .lst [.int c, .int z]
def PoolQ (R : Sto) (s : Sto) : Prop := ∃ c z : Int, s = cellQ c z :: R
theorem below_cellQ {k : Nat} {c z : Int} : belowC k (cellQ c z) = true := by unfold cellQ; simp only [unsetAll, belowE, List.set_cons_succ, List.set_cons_zero, List.all_cons, List.all_nil, belowO_some, belowO_none, belowD_G, belowD, belowDs, belowFs, belowC, belowDs_mapR, belowDs_map', belowDs_app', Bool.and_true, Bool.and_self, Bool.true_and, all_true', List.length_nil, List.length_cons, List.length_append, Nat.reduceAdd, Nat.reduceLT, decide_true, Nat.zero_lt_succ, Nat.lt_add_one, and_true, true_and]
theorem below_fl {k : Nat} {ns : List Int} : belowD k (.fl (ns.map D.int)) = true := by simp only [unsetAll, belowE, List.set_cons_succ, List.set_cons_zero, List.all_cons, List.all_nil, belowO_some, belowO_none, belowD_G, belowD, belowDs, belowFs, belowC, belowDs_mapR, belowDs_map', belowDs_app', Bool.and_true, Bool.and_self, Bool.true_and, all_true', List.length_nil, List.length_cons, List.length_append, Nat.reduceAdd, Nat.reduceLT, decide_true, Nat.zero_lt_succ, Nat.lt_add_one, and_true, true_and]
theorem seed_ok {k : Nat} (hk : k ≤ 16) (c : Int) : powOk (c % 2147483629 + 7919 * (k : Int) * (k : Int) + 31) 3 := by
  have a := Int.emod_nonneg c (show (2147483629 : Int) ≠ 0 by decide)
  have b := Int.emod_lt_of_pos c (show (0 : Int) < 2147483629 by decide)
  have d : (7919 * (k : Int) * k) ≤ 7919 * 16 * 16 := Int.mul_le_mul (by omega) (by omega) (by omega) (by decide)
  have e : 0 ≤ (7919 * (k : Int) * k) := Int.mul_nonneg (Int.mul_nonneg (by decide) (by omega)) (by omega)
  generalize 7919 * (k : Int) * k = z at *
  exact powOk_of (by decide) (by omega) (by omega)
theorem pool_ok {ns : List Int} {k : Nat} {P : D → Sto → Prop} (hk : k ≤ 16) (h : ∀ s, PoolQ [] s → P (.obj 0) s) : W (g_ulaw_poolN1 A [.fl (ns.map D.int), .int (k : Nat)]) [] P := by
  refine w_callN rfl ?_
  unfold b_ulaw_poolN1
  have mk : ∀ i : Int, mulOk i (k : Nat) := fun i => mulOk_r (by omega) (by omega)
  have p18 : powOk 10 18 := powOk_of (by decide) (by decide) (by decide)
  by_cases hl : (k : Int) < (ns.length : Nat)
  · obtain ⟨c, hc⟩ : ∃ c, atI (ns.map D.int) (k : Int) = some (.int c) := ⟨ns[k], DL.atI_nat (by rw [List.getElem?_map, List.getElem?_eq_getElem (show k < ns.length by omega)]; rfl)⟩
    simp only [w_bind, w_pure, w_var, w_c, w_op2, w_nil, w_cons, w_tup, w_lst, w_newL, w_sub, w_add, w_mod, w_divE, w_powE, w_mulE, w_cmp, w_bD, w_eB, w_eTru, w_truB, w_ch, w_tand, w_tor, w_tnot, w_and, w_or, w_not, DL.w_next, w_ret, w_sif, w_expr, w_gN, w_asg, w_eCall, w_seq, goOn_nx, goOn_rt, w_lc, w_lcN, w_iR1, w_iR2, w_iSq, w_seqL, w_seqT, w_lenT, w_lenL, w_lenF, w_max, w_min, w_gSub, w_for, w_isi, w_if, w_tupleL, w_tupleT, w_listL, w_listT, w_listNT, w_listNL, w_neg, w_negI, w_eListR1, w_iZpA, w_iZp3A, w_iEnA, w_zpTT, w_zpTL, w_zpLT, w_zpLL, w_enAL, w_enAT, w_isN, w_isT, w_nisT, w_isB, w_nisB, w_isI, w_nisI, w_isL, w_nisL, w_gT2, w_gT3, w_intB, w_intI, w_eMake, w_fld1, w_prop1, w_meth1, w_sub1, w_or2a1, w_own, w_inO, w_eIf, w_eqI, w_neI, w_eqB, w_neB, isi_int_int, isi_int_bl, isi_int_non, isi_int_str, isi_int_lst, isi_int_tup, isi_int_dct, isi_bool_int, isi_bool_bl, isi_bool_non, isi_bool_str, isi_bool_lst, isi_bool_tup, isi_bool_dct, isi_str_int, isi_str_bl, isi_str_non, isi_str_str, isi_str_lst, isi_str_tup, isi_str_dct, isi_list_int, isi_list_bl, isi_list_non, isi_list_str, isi_list_lst, isi_list_tup, isi_list_dct, isi_tuple_int, isi_tuple_bl, isi_tuple_non, isi_tuple_str, isi_tuple_lst, isi_tuple_tup, isi_tuple_dct, isi_dict_int, isi_dict_bl, isi_dict_non, isi_dict_str, isi_dict_lst, isi_dict_tup, isi_dict_dct, isi_lt_int, isi_o_int, isi_lt_bl, isi_o_bl, isi_lt_non, isi_o_non, isi_lt_str, isi_o_str, isi_lt_lst, isi_o_lst, isi_lt_tup, isi_o_tup, isi_lt_dct, isi_o_dct, isi_own, mapR_len, rngD_length, enumD_mapR, zip_mapR, zip3_mapR, rng0, rngA, List.length_map, startD, wipeD, List.map_cons, List.map_nil, List.length_cons, List.length_nil, List.replicate, List.cons_append, List.nil_append, List.append_nil, List.getElem?_cons_zero, List.getElem?_cons_succ, List.set_cons_succ, List.set_cons_zero, Bool.not_true, Bool.not_false, if_true, if_false, Bool.false_eq_true, decide_true, decide_false, true_and, and_true, and_self, and_imp, Int.zero_add, le2, le3, le4, le1, le0, Nat.sub_zero, Bool.true_and, Bool.and_true, Bool.false_and, Bool.and_false, Bool.true_or, Bool.false_or, Bool.or_false, Bool.or_true, beq_self_eq_true, not_true_eq_false, not_false_eq_true, decide_eq_true_eq, fldC1, ofC'1, par2_2, par3_3, w_par2E, w_par3E, w_slD, w_slF, w_eSlice, w_eNoP, w_eP, w_intO, w_gT21, w_zpLLT, w_truO1, w_binO, w_ninO, w_eCM, w_eqLL, w_neLL, w_eqTT, w_neTT, lcY_nil, lcY_cons, w_all2, at2_0, at2_1, at3_0, at3_1, at3_2, at4_0, at4_1, at4_2, at4_3, itm_some, ixLE, ixFE, ixTE, ixO0, setO0, put_some, ix2_0, ix2_1, ix4_0, ix4_1, ix4_2, ix4_3, false_and, and_false, implies_true, w_eClr, w_slAL, w_slAF, w_seqG, w_lenG, w_enAG, w_tupleG, ixGE, isi_lt_G, w_nisN, w_binI, w_eApp, w_eMakeF, isLO_b, ix_b, augIE, w_eMv, w_one, okTg_self, at_behind, set_behind, Nat.reduceAdd, Int.reduceLT, Int.reduceLE, Int.reduceToNat, Nat.reduceLT, Nat.reduceLeDiff, Nat.reduceEqDiff, Int.reduceAbs, Int.reduceAdd, Int.reduceEq, Int.reduceNeg, Int.reduceSub, Int.reduceMul, Nat.reduceSub, Int.cast_ofNat_Int, Int.natCast_zero, Int.natCast_one, hl, hc, mk, seed_ok hk, p18]
    split <;> exact h _ ⟨_, _, rfl⟩
  · simp only [w_bind, w_pure, w_var, w_c, w_op2, w_nil, w_cons, w_tup, w_lst, w_newL, w_sub, w_add, w_mod, w_divE, w_powE, w_mulE, w_cmp, w_bD, w_eB, w_eTru, w_truB, w_ch, w_tand, w_tor, w_tnot, w_and, w_or, w_not, DL.w_next, w_ret, w_sif, w_expr, w_gN, w_asg, w_eCall, w_seq, goOn_nx, goOn_rt, w_lc, w_lcN, w_iR1, w_iR2, w_iSq, w_seqL, w_seqT, w_lenT, w_lenL, w_lenF, w_max, w_min, w_gSub, w_for, w_isi, w_if, w_tupleL, w_tupleT, w_listL, w_listT, w_listNT, w_listNL, w_neg, w_negI, w_eListR1, w_iZpA, w_iZp3A, w_iEnA, w_zpTT, w_zpTL, w_zpLT, w_zpLL, w_enAL, w_enAT, w_isN, w_isT, w_nisT, w_isB, w_nisB, w_isI, w_nisI, w_isL, w_nisL, w_gT2, w_gT3, w_intB, w_intI, w_eMake, w_fld1, w_prop1, w_meth1, w_sub1, w_or2a1, w_own, w_inO, w_eIf, w_eqI, w_neI, w_eqB, w_neB, isi_int_int, isi_int_bl, isi_int_non, isi_int_str, isi_int_lst, isi_int_tup, isi_int_dct, isi_bool_int, isi_bool_bl, isi_bool_non, isi_bool_str, isi_bool_lst, isi_bool_tup, isi_bool_dct, isi_str_int, isi_str_bl, isi_str_non, isi_str_str, isi_str_lst, isi_str_tup, isi_str_dct, isi_list_int, isi_list_bl, isi_list_non, isi_list_str, isi_list_lst, isi_list_tup, isi_list_dct, isi_tuple_int, isi_tuple_bl, isi_tuple_non, isi_tuple_str, isi_tuple_lst, isi_tuple_tup, isi_tuple_dct, isi_dict_int, isi_dict_bl, isi_dict_non, isi_dict_str, isi_dict_lst, isi_dict_tup, isi_dict_dct, isi_lt_int, isi_o_int, isi_lt_bl, isi_o_bl, isi_lt_non, isi_o_non, isi_lt_str, isi_o_str, isi_lt_lst, isi_o_lst, isi_lt_tup, isi_o_tup, isi_lt_dct, isi_o_dct, isi_own, mapR_len, rngD_length, enumD_mapR, zip_mapR, zip3_mapR, rng0, rngA, List.length_map, startD, wipeD, List.map_cons, List.map_nil, List.length_cons, List.length_nil, List.replicate, List.cons_append, List.nil_append, List.append_nil, List.getElem?_cons_zero, List.getElem?_cons_succ, List.set_cons_succ, List.set_cons_zero, Bool.not_true, Bool.not_false, if_true, if_false, Bool.false_eq_true, decide_true, decide_false, true_and, and_true, and_self, and_imp, Int.zero_add, le2, le3, le4, le1, le0, Nat.sub_zero, Bool.true_and, Bool.and_true, Bool.false_and, Bool.and_false, Bool.true_or, Bool.false_or, Bool.or_false, Bool.or_true, beq_self_eq_true, not_true_eq_false, not_false_eq_true, decide_eq_true_eq, fldC1, ofC'1, par2_2, par3_3, w_par2E, w_par3E, w_slD, w_slF, w_eSlice, w_eNoP, w_eP, w_intO, w_gT21, w_zpLLT, w_truO1, w_binO, w_ninO, w_eCM, w_eqLL, w_neLL, w_eqTT, w_neTT, lcY_nil, lcY_cons, w_all2, at2_0, at2_1, at3_0, at3_1, at3_2, at4_0, at4_1, at4_2, at4_3, itm_some, ixLE, ixFE, ixTE, ixO0, setO0, put_some, ix2_0, ix2_1, ix4_0, ix4_1, ix4_2, ix4_3, false_and, and_false, implies_true, w_eClr, w_slAL, w_slAF, w_seqG, w_lenG, w_enAG, w_tupleG, ixGE, isi_lt_G, w_nisN, w_binI, w_eApp, w_eMakeF, isLO_b, ix_b, augIE, w_eMv, w_one, okTg_self, at_behind, set_behind, Nat.reduceAdd, Int.reduceLT, Int.reduceLE, Int.reduceToNat, Nat.reduceLT, Nat.reduceLeDiff, Nat.reduceEqDiff, Int.reduceAbs, Int.reduceAdd, Int.reduceEq, Int.reduceNeg, Int.reduceSub, Int.reduceMul, Nat.reduceSub, Int.cast_ofNat_Int, Int.natCast_zero, Int.natCast_one, hl, mk, seed_ok hk, p18]
    split <;> exact h _ ⟨_, _, rfl⟩
theorem draw_ok {R : Sto} {m : Int} {P : D → Sto → Prop} (hJ : PoolQ R st) (hm : 0 < m) (hm2 : divOk m) (h : ∀ d s, 0 ≤ d → d < m → PoolQ R s → P (.int d) s) : W (g_ulaw_draw A [.obj 0, .int m]) st P := by
  obtain ⟨c, z, rfl⟩ := hJ
  have z0 : ∀ x : Int, 0 ≤ x % m := fun x => Int.emod_nonneg _ (by omega)
  have z1 : ∀ x : Int, x % m < m := fun x => Int.emod_lt_of_pos _ hm
  have fin : ∀ (x : Int) (a b : Int), ∃ c' : Cell, cellQ a b :: R = c' :: R ∧ (∀ k, belowC k c' = true) ∧ ((∀ k, belowD k (.int (x % m)) = true) ∧ P (.int (x % m)) (c' :: R)) := fun x a b =>
    ⟨_, rfl, fun k => below_cellQ, fun k => rfl, h _ _ (z0 _) (z1 _) ⟨_, _, rfl⟩⟩
  refine callH rfl ?_
  unfold b_ulaw_draw cellQ
  have k2 : ∀ z : Int, mulOk z 48271 := fun z => mulOk_r (by decide) (by decide)
  have k3 : ∀ z y : Int, mulOk (z % 2147483647) y := fun z y => by
    have a := Int.emod_nonneg z (show (2147483647 : Int) ≠ 0 by decide)
    have b := Int.emod_lt_of_pos z (show (0 : Int) < 2147483647 by decide)
    exact mulOk_l (by omega) (by omega)
  have k4 : divOk 64 := divOk_of (by decide) (by decide)
  simp only [w_bind, w_pure, w_var, w_c, w_op2, w_nil, w_cons, w_tup, w_lst, w_newL, w_sub, w_add, w_mod, w_divE, w_powE, w_mulE, w_cmp, w_bD, w_eB, w_eTru, w_truB, w_ch, w_tand, w_tor, w_tnot, w_and, w_or, w_not, DL.w_next, w_ret, w_sif, w_expr, w_gN, w_asg, w_eCall, w_seq, goOn_nx, goOn_rt, w_lc, w_lcN, w_iR1, w_iR2, w_iSq, w_seqL, w_seqT, w_lenT, w_lenL, w_lenF, w_max, w_min, w_gSub, w_for, w_isi, w_if, w_tupleL, w_tupleT, w_listL, w_listT, w_listNT, w_listNL, w_neg, w_negI, w_eListR1, w_iZpA, w_iZp3A, w_iEnA, w_zpTT, w_zpTL, w_zpLT, w_zpLL, w_enAL, w_enAT, w_isN, w_isT, w_nisT, w_isB, w_nisB, w_isI, w_nisI, w_isL, w_nisL, w_gT2, w_gT3, w_intB, w_intI, w_eMake, w_fld1, w_prop1, w_meth1, w_sub1, w_or2a1, w_own, w_inO, w_eIf, w_eqI, w_neI, w_eqB, w_neB, isi_int_int, isi_int_bl, isi_int_non, isi_int_str, isi_int_lst, isi_int_tup, isi_int_dct, isi_bool_int, isi_bool_bl, isi_bool_non, isi_bool_str, isi_bool_lst, isi_bool_tup, isi_bool_dct, isi_str_int, isi_str_bl, isi_str_non, isi_str_str, isi_str_lst, isi_str_tup, isi_str_dct, isi_list_int, isi_list_bl, isi_list_non, isi_list_str, isi_list_lst, isi_list_tup, isi_list_dct, isi_tuple_int, isi_tuple_bl, isi_tuple_non, isi_tuple_str, isi_tuple_lst, isi_tuple_tup, isi_tuple_dct, isi_dict_int, isi_dict_bl, isi_dict_non, isi_dict_str, isi_dict_lst, isi_dict_tup, isi_dict_dct, isi_lt_int, isi_o_int, isi_lt_bl, isi_o_bl, isi_lt_non, isi_o_non, isi_lt_str, isi_o_str, isi_lt_lst, isi_o_lst, isi_lt_tup, isi_o_tup, isi_lt_dct, isi_o_dct, isi_own, mapR_len, rngD_length, enumD_mapR, zip_mapR, zip3_mapR, rng0, rngA, List.length_map, startD, wipeD, List.map_cons, List.map_nil, List.length_cons, List.length_nil, List.replicate, List.cons_append, List.nil_append, List.append_nil, List.getElem?_cons_zero, List.getElem?_cons_succ, List.set_cons_succ, List.set_cons_zero, Bool.not_true, Bool.not_false, if_true, if_false, Bool.false_eq_true, decide_true, decide_false, true_and, and_true, and_self, and_imp, Int.zero_add, le2, le3, le4, le1, le0, Nat.sub_zero, Bool.true_and, Bool.and_true, Bool.false_and, Bool.and_false, Bool.true_or, Bool.false_or, Bool.or_false, Bool.or_true, beq_self_eq_true, not_true_eq_false, not_false_eq_true, decide_eq_true_eq, fldC1, ofC'1, par2_2, par3_3, w_par2E, w_par3E, w_slD, w_slF, w_eSlice, w_eNoP, w_eP, w_intO, w_gT21, w_zpLLT, w_truO1, w_binO, w_ninO, w_eCM, w_eqLL, w_neLL, w_eqTT, w_neTT, lcY_nil, lcY_cons, w_all2, at2_0, at2_1, at3_0, at3_1, at3_2, at4_0, at4_1, at4_2, at4_3, itm_some, ixLE, ixFE, ixTE, ixO0, setO0, put_some, ix2_0, ix2_1, ix4_0, ix4_1, ix4_2, ix4_3, false_and, and_false, implies_true, w_eClr, w_slAL, w_slAF, w_seqG, w_lenG, w_enAG, w_tupleG, ixGE, isi_lt_G, w_nisN, w_binI, w_eApp, w_eMakeF, isLO_b, ix_b, augIE, w_eMv, w_one, okTg_self, at_behind, set_behind, Nat.reduceAdd, Int.reduceLT, Int.reduceLE, Int.reduceToNat, Nat.reduceLT, Nat.reduceLeDiff, Nat.reduceEqDiff, Int.reduceAbs, Int.reduceAdd, Int.reduceEq, Int.reduceNeg, Int.reduceSub, Int.reduceMul, Nat.reduceSub, Int.cast_ofNat_Int, Int.natCast_zero, Int.natCast_one, hm, hm2, k2, k3, k4]
  split <;> exact fin _ _ _
theorem src_ok {ns : List Int} {most : Int} {δ' : En} {P : List D → Sto → Prop} (h0 : 0 ≤ most) (h1 : most ≤ 16) (h : ∀ m : Nat, m ≤ 16 → P (mapR m fun i => .int (i : Nat)) st) :
    W (iR1 (eCons (eCall max2D (eCons (eC (.int 1)) (eCons (eCall min2D (eCons (eCall lenD (eCons (eVar 0) eNil)) (eCons (eC (.int most)) eNil))) eNil))) eNil) (some (.fl (ns.map D.int)) :: δ')) st P := by
  simp only [w_bind, w_pure, w_var, w_c, w_op2, w_nil, w_cons, w_tup, w_lst, w_newL, w_sub, w_add, w_mod, w_divE, w_powE, w_mulE, w_cmp, w_bD, w_eB, w_eTru, w_truB, w_ch, w_tand, w_tor, w_tnot, w_and, w_or, w_not, DL.w_next, w_ret, w_sif, w_expr, w_gN, w_asg, w_eCall, w_seq, goOn_nx, goOn_rt, w_lc, w_lcN, w_iR1, w_iR2, w_iSq, w_seqL, w_seqT, w_lenT, w_lenL, w_lenF, w_max, w_min, w_gSub, w_for, w_isi, w_if, w_tupleL, w_tupleT, w_listL, w_listT, w_listNT, w_listNL, w_neg, w_negI, w_eListR1, w_iZpA, w_iZp3A, w_iEnA, w_zpTT, w_zpTL, w_zpLT, w_zpLL, w_enAL, w_enAT, w_isN, w_isT, w_nisT, w_isB, w_nisB, w_isI, w_nisI, w_isL, w_nisL, w_gT2, w_gT3, w_intB, w_intI, w_eMake, w_fld1, w_prop1, w_meth1, w_sub1, w_or2a1, w_own, w_inO, w_eIf, w_eqI, w_neI, w_eqB, w_neB, isi_int_int, isi_int_bl, isi_int_non, isi_int_str, isi_int_lst, isi_int_tup, isi_int_dct, isi_bool_int, isi_bool_bl, isi_bool_non, isi_bool_str, isi_bool_lst, isi_bool_tup, isi_bool_dct, isi_str_int, isi_str_bl, isi_str_non, isi_str_str, isi_str_lst, isi_str_tup, isi_str_dct, isi_list_int, isi_list_bl, isi_list_non, isi_list_str, isi_list_lst, isi_list_tup, isi_list_dct, isi_tuple_int, isi_tuple_bl, isi_tuple_non, isi_tuple_str, isi_tuple_lst, isi_tuple_tup, isi_tuple_dct, isi_dict_int, isi_dict_bl, isi_dict_non, isi_dict_str, isi_dict_lst, isi_dict_tup, isi_dict_dct, isi_lt_int, isi_o_int, isi_lt_bl, isi_o_bl, isi_lt_non, isi_o_non, isi_lt_str, isi_o_str, isi_lt_lst, isi_o_lst, isi_lt_tup, isi_o_tup, isi_lt_dct, isi_o_dct, isi_own, mapR_len, rngD_length, enumD_mapR, zip_mapR, zip3_mapR, rng0, rngA, List.length_map, startD, wipeD, List.map_cons, List.map_nil, List.length_cons, List.length_nil, List.replicate, List.cons_append, List.nil_append, List.append_nil, List.getElem?_cons_zero, List.getElem?_cons_succ, List.set_cons_succ, List.set_cons_zero, Bool.not_true, Bool.not_false, if_true, if_false, Bool.false_eq_true, decide_true, decide_false, true_and, and_true, and_self, and_imp, Int.zero_add, le2, le3, le4, le1, le0, Nat.sub_zero, Bool.true_and, Bool.and_true, Bool.false_and, Bool.and_false, Bool.true_or, Bool.false_or, Bool.or_false, Bool.or_true, beq_self_eq_true, not_true_eq_false, not_false_eq_true, decide_eq_true_eq, fldC1, ofC'1, par2_2, par3_3, w_par2E, w_par3E, w_slD, w_slF, w_eSlice, w_eNoP, w_eP, w_intO, w_gT21, w_zpLLT, w_truO1, w_binO, w_ninO, w_eCM, w_eqLL, w_neLL, w_eqTT, w_neTT, lcY_nil, lcY_cons, w_all2, at2_0, at2_1, at3_0, at3_1, at3_2, at4_0, at4_1, at4_2, at4_3, itm_some, ixLE, ixFE, ixTE, ixO0, setO0, put_some, ix2_0, ix2_1, ix4_0, ix4_1, ix4_2, ix4_3, false_and, and_false, implies_true, w_eClr, w_slAL, w_slAF, w_seqG, w_lenG, w_enAG, w_tupleG, ixGE, isi_lt_G, w_nisN, w_binI, w_eApp, w_eMakeF, isLO_b, ix_b, augIE, w_eMv, w_one, okTg_self, at_behind, set_behind, Nat.reduceAdd, Int.reduceLT, Int.reduceLE, Int.reduceToNat, Nat.reduceLT, Nat.reduceLeDiff, Nat.reduceEqDiff, Int.reduceAbs, Int.reduceAdd, Int.reduceEq, Int.reduceNeg, Int.reduceSub, Int.reduceMul, Nat.reduceSub, Int.cast_ofNat_Int, Int.natCast_zero, Int.natCast_one]
  generalize hq : (if (if most < ((ns.length : Nat) : Int) then most else ((ns.length : Nat) : Int)) > 1 then (if most < ((ns.length : Nat) : Int) then most else ((ns.length : Nat) : Int)) else 1) = q at *
  have b0 : 0 ≤ q := by rw [← hq]; split <;> omega
  have b1 : q ≤ 16 := by rw [← hq]; split <;> (try split) <;> omega
  rw [w_r1Z b0 (by omega)]
  exact h _ (by omega)
/-! ### jars, further -/
theorem jar_countsN {n : Nat} {c : Nat → Int} {P : D → Sto → Prop} : W (g_Jar_countsN1 A [jarD A n c]) st P = P (.obj st.length) (st ++ [.lst (mapR n fun i => .int (c i))]) := w_of (w_callN rfl (by unfold b_Jar_countsN1; simp only [w_bind, w_pure, w_var, w_c, w_op2, w_nil, w_cons, w_tup, w_lst, w_newL, w_sub, w_add, w_mod, w_divE, w_powE, w_mulE, w_cmp, w_bD, w_eB, w_eTru, w_truB, w_ch, w_tand, w_tor, w_tnot, w_and, w_or, w_not, DL.w_next, w_ret, w_sif, w_expr, w_gN, w_asg, w_eCall, w_seq, goOn_nx, goOn_rt, w_lc, w_lcN, w_iR1, w_iR2, w_iSq, w_seqL, w_seqT, w_lenT, w_lenL, w_lenF, w_max, w_min, w_gSub, w_for, w_isi, w_if, w_tupleL, w_tupleT, w_listL, w_listT, w_listNT, w_listNL, w_neg, w_negI, w_eListR1, w_iZpA, w_iZp3A, w_iEnA, w_zpTT, w_zpTL, w_zpLT, w_zpLL, w_enAL, w_enAT, w_isN, w_isT, w_nisT, w_isB, w_nisB, w_isI, w_nisI, w_isL, w_nisL, w_gT2, w_gT3, w_intB, w_intI, w_eMake, w_fld1, w_prop1, w_meth1, w_sub1, w_or2a1, w_own, w_inO, w_eIf, w_eqI, w_neI, w_eqB, w_neB, isi_int_int, isi_int_bl, isi_int_non, isi_int_str, isi_int_lst, isi_int_tup, isi_int_dct, isi_bool_int, isi_bool_bl, isi_bool_non, isi_bool_str, isi_bool_lst, isi_bool_tup, isi_bool_dct, isi_str_int, isi_str_bl, isi_str_non, isi_str_str, isi_str_lst, isi_str_tup, isi_str_dct, isi_list_int, isi_list_bl, isi_list_non, isi_list_str, isi_list_lst, isi_list_tup, isi_list_dct, isi_tuple_int, isi_tuple_bl, isi_tuple_non, isi_tuple_str, isi_tuple_lst, isi_tuple_tup, isi_tuple_dct, isi_dict_int, isi_dict_bl, isi_dict_non, isi_dict_str, isi_dict_lst, isi_dict_tup, isi_dict_dct, isi_lt_int, isi_o_int, isi_lt_bl, isi_o_bl, isi_lt_non, isi_o_non, isi_lt_str, isi_o_str, isi_lt_lst, isi_o_lst, isi_lt_tup, isi_o_tup, isi_lt_dct, isi_o_dct, isi_own, mapR_len, rngD_length, enumD_mapR, zip_mapR, zip3_mapR, rng0, rngA, List.length_map, startD, wipeD, List.map_cons, List.map_nil, List.length_cons, List.length_nil, List.replicate, List.cons_append, List.nil_append, List.append_nil, List.getElem?_cons_zero, List.getElem?_cons_succ, List.set_cons_succ, List.set_cons_zero, Bool.not_true, Bool.not_false, if_true, if_false, Bool.false_eq_true, decide_true, decide_false, true_and, and_true, and_self, and_imp, Int.zero_add, le2, le3, le4, le1, le0, Nat.sub_zero, Bool.true_and, Bool.and_true, Bool.false_and, Bool.and_false, Bool.true_or, Bool.false_or, Bool.or_false, Bool.or_true, beq_self_eq_true, not_true_eq_false, not_false_eq_true, decide_eq_true_eq, fldC1, ofC'1, par2_2, par3_3, w_par2E, w_par3E, w_slD, w_slF, w_eSlice, w_eNoP, w_eP, w_intO, w_gT21, w_zpLLT, w_truO1, w_binO, w_ninO, w_eCM, w_eqLL, w_neLL, w_eqTT, w_neTT, lcY_nil, lcY_cons, w_all2, at2_0, at2_1, at3_0, at3_1, at3_2, at4_0, at4_1, at4_2, at4_3, itm_some, ixLE, ixFE, ixTE, ixO0, setO0, put_some, ix2_0, ix2_1, ix4_0, ix4_1, ix4_2, ix4_3, false_and, and_false, implies_true, w_eClr, w_slAL, w_slAF, w_seqG, w_lenG, w_enAG, w_tupleG, ixGE, isi_lt_G, w_nisN, w_binI, w_eApp, w_eMakeF, isLO_b, ix_b, augIE, w_eMv, w_one, okTg_self, at_behind, set_behind, Nat.reduceAdd, Int.reduceLT, Int.reduceLE, Int.reduceToNat, Nat.reduceLT, Nat.reduceLeDiff, Nat.reduceEqDiff, Int.reduceAbs, Int.reduceAdd, Int.reduceEq, Int.reduceNeg, Int.reduceSub, Int.reduceMul, Nat.reduceSub, Int.cast_ofNat_Int, Int.natCast_zero, Int.natCast_one]))
def posL (n : Nat) (c : Nat → Int) : List D := ((List.range n).filter fun i => decide (0 < c i)).map fun i => .int (i : Nat)
theorem below_posL {k n : Nat} {c : Nat → Int} : belowD k (.lst (posL n c)) = true := by unfold posL; simp only [unsetAll, belowE, List.set_cons_succ, List.set_cons_zero, List.all_cons, List.all_nil, belowO_some, belowO_none, belowD_G, belowD, belowDs, belowFs, belowC, belowDs_mapR, belowDs_map', belowDs_app', Bool.and_true, Bool.and_self, Bool.true_and, all_true', List.length_nil, List.length_cons, List.length_append, Nat.reduceAdd, Nat.reduceLT, decide_true, Nat.zero_lt_succ, Nat.lt_add_one, and_true, true_and]
theorem jar_colours {n : Nat} {c : Nat → Int} (hn : n ≤ 8) {P : D → Sto → Prop} : W (g_Jar_colours A [jarD A n c]) st P = P (.lst (posL n c)) st := callE rfl (by
  unfold b_Jar_colours
  have hl : n ≤ sizeLine := line_le (by omega)
  simp only [w_bind, w_pure, w_var, w_c, w_op2, w_nil, w_cons, w_tup, w_lst, w_newL, w_sub, w_add, w_mod, w_divE, w_powE, w_mulE, w_cmp, w_bD, w_eB, w_eTru, w_truB, w_ch, w_tand, w_tor, w_tnot, w_and, w_or, w_not, DL.w_next, w_ret, w_sif, w_expr, w_gN, w_asg, w_eCall, w_seq, goOn_nx, goOn_rt, w_lc, w_lcN, w_iR1, w_iR2, w_iSq, w_seqL, w_seqT, w_lenT, w_lenL, w_lenF, w_max, w_min, w_gSub, w_for, w_isi, w_if, w_tupleL, w_tupleT, w_listL, w_listT, w_listNT, w_listNL, w_neg, w_negI, w_eListR1, w_iZpA, w_iZp3A, w_iEnA, w_zpTT, w_zpTL, w_zpLT, w_zpLL, w_enAL, w_enAT, w_isN, w_isT, w_nisT, w_isB, w_nisB, w_isI, w_nisI, w_isL, w_nisL, w_gT2, w_gT3, w_intB, w_intI, w_eMake, w_fld1, w_prop1, w_meth1, w_sub1, w_or2a1, w_own, w_inO, w_eIf, w_eqI, w_neI, w_eqB, w_neB, isi_int_int, isi_int_bl, isi_int_non, isi_int_str, isi_int_lst, isi_int_tup, isi_int_dct, isi_bool_int, isi_bool_bl, isi_bool_non, isi_bool_str, isi_bool_lst, isi_bool_tup, isi_bool_dct, isi_str_int, isi_str_bl, isi_str_non, isi_str_str, isi_str_lst, isi_str_tup, isi_str_dct, isi_list_int, isi_list_bl, isi_list_non, isi_list_str, isi_list_lst, isi_list_tup, isi_list_dct, isi_tuple_int, isi_tuple_bl, isi_tuple_non, isi_tuple_str, isi_tuple_lst, isi_tuple_tup, isi_tuple_dct, isi_dict_int, isi_dict_bl, isi_dict_non, isi_dict_str, isi_dict_lst, isi_dict_tup, isi_dict_dct, isi_lt_int, isi_o_int, isi_lt_bl, isi_o_bl, isi_lt_non, isi_o_non, isi_lt_str, isi_o_str, isi_lt_lst, isi_o_lst, isi_lt_tup, isi_o_tup, isi_lt_dct, isi_o_dct, isi_own, mapR_len, rngD_length, enumD_mapR, zip_mapR, zip3_mapR, rng0, rngA, List.length_map, startD, wipeD, List.map_cons, List.map_nil, List.length_cons, List.length_nil, List.replicate, List.cons_append, List.nil_append, List.append_nil, List.getElem?_cons_zero, List.getElem?_cons_succ, List.set_cons_succ, List.set_cons_zero, Bool.not_true, Bool.not_false, if_true, if_false, Bool.false_eq_true, decide_true, decide_false, true_and, and_true, and_self, and_imp, Int.zero_add, le2, le3, le4, le1, le0, Nat.sub_zero, Bool.true_and, Bool.and_true, Bool.false_and, Bool.and_false, Bool.true_or, Bool.false_or, Bool.or_false, Bool.or_true, beq_self_eq_true, not_true_eq_false, not_false_eq_true, decide_eq_true_eq, fldC1, ofC'1, par2_2, par3_3, w_par2E, w_par3E, w_slD, w_slF, w_eSlice, w_eNoP, w_eP, w_intO, w_gT21, w_zpLLT, w_truO1, w_binO, w_ninO, w_eCM, w_eqLL, w_neLL, w_eqTT, w_neTT, lcY_nil, lcY_cons, w_all2, at2_0, at2_1, at3_0, at3_1, at3_2, at4_0, at4_1, at4_2, at4_3, itm_some, ixLE, ixFE, ixTE, ixO0, setO0, put_some, ix2_0, ix2_1, ix4_0, ix4_1, ix4_2, ix4_3, false_and, and_false, implies_true, w_eClr, w_slAL, w_slAF, w_seqG, w_lenG, w_enAG, w_tupleG, ixGE, isi_lt_G, w_nisN, w_binI, w_eApp, w_eMakeF, isLO_b, ix_b, augIE, w_eMv, w_one, okTg_self, at_behind, set_behind, Nat.reduceAdd, Int.reduceLT, Int.reduceLE, Int.reduceToNat, Nat.reduceLT, Nat.reduceLeDiff, Nat.reduceEqDiff, Int.reduceAbs, Int.reduceAdd, Int.reduceEq, Int.reduceNeg, Int.reduceSub, Int.reduceMul, Nat.reduceSub, Int.cast_ofNat_Int, Int.natCast_zero, Int.natCast_one, hl]
  rw [lcF (ok := fun i => decide (0 < c i)) (f := fun i => .int (i : Nat)) fun i hi => by simp only [w_bind, w_pure, w_var, w_c, w_op2, w_nil, w_cons, w_tup, w_lst, w_newL, w_sub, w_add, w_mod, w_divE, w_powE, w_mulE, w_cmp, w_bD, w_eB, w_eTru, w_truB, w_ch, w_tand, w_tor, w_tnot, w_and, w_or, w_not, DL.w_next, w_ret, w_sif, w_expr, w_gN, w_asg, w_eCall, w_seq, goOn_nx, goOn_rt, w_lc, w_lcN, w_iR1, w_iR2, w_iSq, w_seqL, w_seqT, w_lenT, w_lenL, w_lenF, w_max, w_min, w_gSub, w_for, w_isi, w_if, w_tupleL, w_tupleT, w_listL, w_listT, w_listNT, w_listNL, w_neg, w_negI, w_eListR1, w_iZpA, w_iZp3A, w_iEnA, w_zpTT, w_zpTL, w_zpLT, w_zpLL, w_enAL, w_enAT, w_isN, w_isT, w_nisT, w_isB, w_nisB, w_isI, w_nisI, w_isL, w_nisL, w_gT2, w_gT3, w_intB, w_intI, w_eMake, w_fld1, w_prop1, w_meth1, w_sub1, w_or2a1, w_own, w_inO, w_eIf, w_eqI, w_neI, w_eqB, w_neB, isi_int_int, isi_int_bl, isi_int_non, isi_int_str, isi_int_lst, isi_int_tup, isi_int_dct, isi_bool_int, isi_bool_bl, isi_bool_non, isi_bool_str, isi_bool_lst, isi_bool_tup, isi_bool_dct, isi_str_int, isi_str_bl, isi_str_non, isi_str_str, isi_str_lst, isi_str_tup, isi_str_dct, isi_list_int, isi_list_bl, isi_list_non, isi_list_str, isi_list_lst, isi_list_tup, isi_list_dct, isi_tuple_int, isi_tuple_bl, isi_tuple_non, isi_tuple_str, isi_tuple_lst, isi_tuple_tup, isi_tuple_dct, isi_dict_int, isi_dict_bl, isi_dict_non, isi_dict_str, isi_dict_lst, isi_dict_tup, isi_dict_dct, isi_lt_int, isi_o_int, isi_lt_bl, isi_o_bl, isi_lt_non, isi_o_non, isi_lt_str, isi_o_str, isi_lt_lst, isi_o_lst, isi_lt_tup, isi_o_tup, isi_lt_dct, isi_o_dct, isi_own, mapR_len, rngD_length, enumD_mapR, zip_mapR, zip3_mapR, rng0, rngA, List.length_map, startD, wipeD, List.map_cons, List.map_nil, List.length_cons, List.length_nil, List.replicate, List.cons_append, List.nil_append, List.append_nil, List.getElem?_cons_zero, List.getElem?_cons_succ, List.set_cons_succ, List.set_cons_zero, Bool.not_true, Bool.not_false, if_true, if_false, Bool.false_eq_true, decide_true, decide_false, true_and, and_true, and_self, and_imp, Int.zero_add, le2, le3, le4, le1, le0, Nat.sub_zero, Bool.true_and, Bool.and_true, Bool.false_and, Bool.and_false, Bool.true_or, Bool.false_or, Bool.or_false, Bool.or_true, beq_self_eq_true, not_true_eq_false, not_false_eq_true, decide_eq_true_eq, fldC1, ofC'1, par2_2, par3_3, w_par2E, w_par3E, w_slD, w_slF, w_eSlice, w_eNoP, w_eP, w_intO, w_gT21, w_zpLLT, w_truO1, w_binO, w_ninO, w_eCM, w_eqLL, w_neLL, w_eqTT, w_neTT, lcY_nil, lcY_cons, w_all2, at2_0, at2_1, at3_0, at3_1, at3_2, at4_0, at4_1, at4_2, at4_3, itm_some, ixLE, ixFE, ixTE, ixO0, setO0, put_some, ix2_0, ix2_1, ix4_0, ix4_1, ix4_2, ix4_3, false_and, and_false, implies_true, w_eClr, w_slAL, w_slAF, w_seqG, w_lenG, w_enAG, w_tupleG, ixGE, isi_lt_G, w_nisN, w_binI, w_eApp, w_eMakeF, isLO_b, ix_b, augIE, w_eMv, w_one, okTg_self, at_behind, set_behind, Nat.reduceAdd, Int.reduceLT, Int.reduceLE, Int.reduceToNat, Nat.reduceLT, Nat.reduceLeDiff, Nat.reduceEqDiff, Int.reduceAbs, Int.reduceAdd, Int.reduceEq, Int.reduceNeg, Int.reduceSub, Int.reduceMul, Nat.reduceSub, Int.cast_ofNat_Int, Int.natCast_zero, Int.natCast_one]]
  exact ⟨rfl, below_posL, rfl⟩)
theorem jar_coloursN {n : Nat} {c : Nat → Int} (hn : n ≤ 8) {P : D → Sto → Prop} : W (g_Jar_coloursN1 A [jarD A n c]) st P = P (.obj st.length) (st ++ [.lst (posL n c)]) := w_of (w_callN rfl (by
  unfold b_Jar_coloursN1
  have hl : n ≤ sizeLine := line_le (by omega)
  simp only [w_bind, w_pure, w_var, w_c, w_op2, w_nil, w_cons, w_tup, w_lst, w_newL, w_sub, w_add, w_mod, w_divE, w_powE, w_mulE, w_cmp, w_bD, w_eB, w_eTru, w_truB, w_ch, w_tand, w_tor, w_tnot, w_and, w_or, w_not, DL.w_next, w_ret, w_sif, w_expr, w_gN, w_asg, w_eCall, w_seq, goOn_nx, goOn_rt, w_lc, w_lcN, w_iR1, w_iR2, w_iSq, w_seqL, w_seqT, w_lenT, w_lenL, w_lenF, w_max, w_min, w_gSub, w_for, w_isi, w_if, w_tupleL, w_tupleT, w_listL, w_listT, w_listNT, w_listNL, w_neg, w_negI, w_eListR1, w_iZpA, w_iZp3A, w_iEnA, w_zpTT, w_zpTL, w_zpLT, w_zpLL, w_enAL, w_enAT, w_isN, w_isT, w_nisT, w_isB, w_nisB, w_isI, w_nisI, w_isL, w_nisL, w_gT2, w_gT3, w_intB, w_intI, w_eMake, w_fld1, w_prop1, w_meth1, w_sub1, w_or2a1, w_own, w_inO, w_eIf, w_eqI, w_neI, w_eqB, w_neB, isi_int_int, isi_int_bl, isi_int_non, isi_int_str, isi_int_lst, isi_int_tup, isi_int_dct, isi_bool_int, isi_bool_bl, isi_bool_non, isi_bool_str, isi_bool_lst, isi_bool_tup, isi_bool_dct, isi_str_int, isi_str_bl, isi_str_non, isi_str_str, isi_str_lst, isi_str_tup, isi_str_dct, isi_list_int, isi_list_bl, isi_list_non, isi_list_str, isi_list_lst, isi_list_tup, isi_list_dct, isi_tuple_int, isi_tuple_bl, isi_tuple_non, isi_tuple_str, isi_tuple_lst, isi_tuple_tup, isi_tuple_dct, isi_dict_int, isi_dict_bl, isi_dict_non, isi_dict_str, isi_dict_lst, isi_dict_tup, isi_dict_dct, isi_lt_int, isi_o_int, isi_lt_bl, isi_o_bl, isi_lt_non, isi_o_non, isi_lt_str, isi_o_str, isi_lt_lst, isi_o_lst, isi_lt_tup, isi_o_tup, isi_lt_dct, isi_o_dct, isi_own, mapR_len, rngD_length, enumD_mapR, zip_mapR, zip3_mapR, rng0, rngA, List.length_map, startD, wipeD, List.map_cons, List.map_nil, List.length_cons, List.length_nil, List.replicate, List.cons_append, List.nil_append, List.append_nil, List.getElem?_cons_zero, List.getElem?_cons_succ, List.set_cons_succ, List.set_cons_zero, Bool.not_true, Bool.not_false, if_true, if_false, Bool.false_eq_true, decide_true, decide_false, true_and, and_true, and_self, and_imp, Int.zero_add, le2, le3, le4, le1, le0, Nat.sub_zero, Bool.true_and, Bool.and_true, Bool.false_and, Bool.and_false, Bool.true_or, Bool.false_or, Bool.or_false, Bool.or_true, beq_self_eq_true, not_true_eq_false, not_false_eq_true, decide_eq_true_eq, fldC1, ofC'1, par2_2, par3_3, w_par2E, w_par3E, w_slD, w_slF, w_eSlice, w_eNoP, w_eP, w_intO, w_gT21, w_zpLLT, w_truO1, w_binO, w_ninO, w_eCM, w_eqLL, w_neLL, w_eqTT, w_neTT, lcY_nil, lcY_cons, w_all2, at2_0, at2_1, at3_0, at3_1, at3_2, at4_0, at4_1, at4_2, at4_3, itm_some, ixLE, ixFE, ixTE, ixO0, setO0, put_some, ix2_0, ix2_1, ix4_0, ix4_1, ix4_2, ix4_3, false_and, and_false, implies_true, w_eClr, w_slAL, w_slAF, w_seqG, w_lenG, w_enAG, w_tupleG, ixGE, isi_lt_G, w_nisN, w_binI, w_eApp, w_eMakeF, isLO_b, ix_b, augIE, w_eMv, w_one, okTg_self, at_behind, set_behind, Nat.reduceAdd, Int.reduceLT, Int.reduceLE, Int.reduceToNat, Nat.reduceLT, Nat.reduceLeDiff, Nat.reduceEqDiff, Int.reduceAbs, Int.reduceAdd, Int.reduceEq, Int.reduceNeg, Int.reduceSub, Int.reduceMul, Nat.reduceSub, Int.cast_ofNat_Int, Int.natCast_zero, Int.natCast_one, hl]
  rw [lcF (ok := fun i => decide (0 < c i)) (f := fun i => .int (i : Nat)) fun i hi => by simp only [w_bind, w_pure, w_var, w_c, w_op2, w_nil, w_cons, w_tup, w_lst, w_newL, w_sub, w_add, w_mod, w_divE, w_powE, w_mulE, w_cmp, w_bD, w_eB, w_eTru, w_truB, w_ch, w_tand, w_tor, w_tnot, w_and, w_or, w_not, DL.w_next, w_ret, w_sif, w_expr, w_gN, w_asg, w_eCall, w_seq, goOn_nx, goOn_rt, w_lc, w_lcN, w_iR1, w_iR2, w_iSq, w_seqL, w_seqT, w_lenT, w_lenL, w_lenF, w_max, w_min, w_gSub, w_for, w_isi, w_if, w_tupleL, w_tupleT, w_listL, w_listT, w_listNT, w_listNL, w_neg, w_negI, w_eListR1, w_iZpA, w_iZp3A, w_iEnA, w_zpTT, w_zpTL, w_zpLT, w_zpLL, w_enAL, w_enAT, w_isN, w_isT, w_nisT, w_isB, w_nisB, w_isI, w_nisI, w_isL, w_nisL, w_gT2, w_gT3, w_intB, w_intI, w_eMake, w_fld1, w_prop1, w_meth1, w_sub1, w_or2a1, w_own, w_inO, w_eIf, w_eqI, w_neI, w_eqB, w_neB, isi_int_int, isi_int_bl, isi_int_non, isi_int_str, isi_int_lst, isi_int_tup, isi_int_dct, isi_bool_int, isi_bool_bl, isi_bool_non, isi_bool_str, isi_bool_lst, isi_bool_tup, isi_bool_dct, isi_str_int, isi_str_bl, isi_str_non, isi_str_str, isi_str_lst, isi_str_tup, isi_str_dct, isi_list_int, isi_list_bl, isi_list_non, isi_list_str, isi_list_lst, isi_list_tup, isi_list_dct, isi_tuple_int, isi_tuple_bl, isi_tuple_non, isi_tuple_str, isi_tuple_lst, isi_tuple_tup, isi_tuple_dct, isi_dict_int, isi_dict_bl, isi_dict_non, isi_dict_str, isi_dict_lst, isi_dict_tup, isi_dict_dct, isi_lt_int, isi_o_int, isi_lt_bl, isi_o_bl, isi_lt_non, isi_o_non, isi_lt_str, isi_o_str, isi_lt_lst, isi_o_lst, isi_lt_tup, isi_o_tup, isi_lt_dct, isi_o_dct, isi_own, mapR_len, rngD_length, enumD_mapR, zip_mapR, zip3_mapR, rng0, rngA, List.length_map, startD, wipeD, List.map_cons, List.map_nil, List.length_cons, List.length_nil, List.replicate, List.cons_append, List.nil_append, List.append_nil, List.getElem?_cons_zero, List.getElem?_cons_succ, List.set_cons_succ, List.set_cons_zero, Bool.not_true, Bool.not_false, if_true, if_false, Bool.false_eq_true, decide_true, decide_false, true_and, and_true, and_self, and_imp, Int.zero_add, le2, le3, le4, le1, le0, Nat.sub_zero, Bool.true_and, Bool.and_true, Bool.false_and, Bool.and_false, Bool.true_or, Bool.false_or, Bool.or_false, Bool.or_true, beq_self_eq_true, not_true_eq_false, not_false_eq_true, decide_eq_true_eq, fldC1, ofC'1, par2_2, par3_3, w_par2E, w_par3E, w_slD, w_slF, w_eSlice, w_eNoP, w_eP, w_intO, w_gT21, w_zpLLT, w_truO1, w_binO, w_ninO, w_eCM, w_eqLL, w_neLL, w_eqTT, w_neTT, lcY_nil, lcY_cons, w_all2, at2_0, at2_1, at3_0, at3_1, at3_2, at4_0, at4_1, at4_2, at4_3, itm_some, ixLE, ixFE, ixTE, ixO0, setO0, put_some, ix2_0, ix2_1, ix4_0, ix4_1, ix4_2, ix4_3, false_and, and_false, implies_true, w_eClr, w_slAL, w_slAF, w_seqG, w_lenG, w_enAG, w_tupleG, ixGE, isi_lt_G, w_nisN, w_binI, w_eApp, w_eMakeF, isLO_b, ix_b, augIE, w_eMv, w_one, okTg_self, at_behind, set_behind, Nat.reduceAdd, Int.reduceLT, Int.reduceLE, Int.reduceToNat, Nat.reduceLT, Nat.reduceLeDiff, Nat.reduceEqDiff, Int.reduceAbs, Int.reduceAdd, Int.reduceEq, Int.reduceNeg, Int.reduceSub, Int.reduceMul, Nat.reduceSub, Int.cast_ofNat_Int, Int.natCast_zero, Int.natCast_one]]
  exact ⟨rfl, rfl⟩))
theorem jar_get {n i : Nat} {c : Nat → Int} (hi : i < n) {P : D → Sto → Prop} : W (g_Jar_uugetitemuu A [jarD A n c, .int (i : Nat)]) st P = P (.int (c i)) st := callE rfl (by
  unfold b_Jar_uugetitemuu
  have h1 : (0 : Int) ≤ (i : Nat) ∧ ((i : Nat) : Int) < (n : Nat) := by omega
  simp only [w_bind, w_pure, w_var, w_c, w_op2, w_nil, w_cons, w_tup, w_lst, w_newL, w_sub, w_add, w_mod, w_divE, w_powE, w_mulE, w_cmp, w_bD, w_eB, w_eTru, w_truB, w_ch, w_tand, w_tor, w_tnot, w_and, w_or, w_not, DL.w_next, w_ret, w_sif, w_expr, w_gN, w_asg, w_eCall, w_seq, goOn_nx, goOn_rt, w_lc, w_lcN, w_iR1, w_iR2, w_iSq, w_seqL, w_seqT, w_lenT, w_lenL, w_lenF, w_max, w_min, w_gSub, w_for, w_isi, w_if, w_tupleL, w_tupleT, w_listL, w_listT, w_listNT, w_listNL, w_neg, w_negI, w_eListR1, w_iZpA, w_iZp3A, w_iEnA, w_zpTT, w_zpTL, w_zpLT, w_zpLL, w_enAL, w_enAT, w_isN, w_isT, w_nisT, w_isB, w_nisB, w_isI, w_nisI, w_isL, w_nisL, w_gT2, w_gT3, w_intB, w_intI, w_eMake, w_fld1, w_prop1, w_meth1, w_sub1, w_or2a1, w_own, w_inO, w_eIf, w_eqI, w_neI, w_eqB, w_neB, isi_int_int, isi_int_bl, isi_int_non, isi_int_str, isi_int_lst, isi_int_tup, isi_int_dct, isi_bool_int, isi_bool_bl, isi_bool_non, isi_bool_str, isi_bool_lst, isi_bool_tup, isi_bool_dct, isi_str_int, isi_str_bl, isi_str_non, isi_str_str, isi_str_lst, isi_str_tup, isi_str_dct, isi_list_int, isi_list_bl, isi_list_non, isi_list_str, isi_list_lst, isi_list_tup, isi_list_dct, isi_tuple_int, isi_tuple_bl, isi_tuple_non, isi_tuple_str, isi_tuple_lst, isi_tuple_tup, isi_tuple_dct, isi_dict_int, isi_dict_bl, isi_dict_non, isi_dict_str, isi_dict_lst, isi_dict_tup, isi_dict_dct, isi_lt_int, isi_o_int, isi_lt_bl, isi_o_bl, isi_lt_non, isi_o_non, isi_lt_str, isi_o_str, isi_lt_lst, isi_o_lst, isi_lt_tup, isi_o_tup, isi_lt_dct, isi_o_dct, isi_own, mapR_len, rngD_length, enumD_mapR, zip_mapR, zip3_mapR, rng0, rngA, List.length_map, startD, wipeD, List.map_cons, List.map_nil, List.length_cons, List.length_nil, List.replicate, List.cons_append, List.nil_append, List.append_nil, List.getElem?_cons_zero, List.getElem?_cons_succ, List.set_cons_succ, List.set_cons_zero, Bool.not_true, Bool.not_false, if_true, if_false, Bool.false_eq_true, decide_true, decide_false, true_and, and_true, and_self, and_imp, Int.zero_add, le2, le3, le4, le1, le0, Nat.sub_zero, Bool.true_and, Bool.and_true, Bool.false_and, Bool.and_false, Bool.true_or, Bool.false_or, Bool.or_false, Bool.or_true, beq_self_eq_true, not_true_eq_false, not_false_eq_true, decide_eq_true_eq, fldC1, ofC'1, par2_2, par3_3, w_par2E, w_par3E, w_slD, w_slF, w_eSlice, w_eNoP, w_eP, w_intO, w_gT21, w_zpLLT, w_truO1, w_binO, w_ninO, w_eCM, w_eqLL, w_neLL, w_eqTT, w_neTT, lcY_nil, lcY_cons, w_all2, at2_0, at2_1, at3_0, at3_1, at3_2, at4_0, at4_1, at4_2, at4_3, itm_some, ixLE, ixFE, ixTE, ixO0, setO0, put_some, ix2_0, ix2_1, ix4_0, ix4_1, ix4_2, ix4_3, false_and, and_false, implies_true, w_eClr, w_slAL, w_slAF, w_seqG, w_lenG, w_enAG, w_tupleG, ixGE, isi_lt_G, w_nisN, w_binI, w_eApp, w_eMakeF, isLO_b, ix_b, augIE, w_eMv, w_one, okTg_self, at_behind, set_behind, Nat.reduceAdd, Int.reduceLT, Int.reduceLE, Int.reduceToNat, Nat.reduceLT, Nat.reduceLeDiff, Nat.reduceEqDiff, Int.reduceAbs, Int.reduceAdd, Int.reduceEq, Int.reduceNeg, Int.reduceSub, Int.reduceMul, Nat.reduceSub, Int.cast_ofNat_Int, Int.natCast_zero, Int.natCast_one, is_col_i, h1, mapR_at hi, belowD])
def inB (n : Nat) (c : Nat → Int) (x : Int) : Bool := decide (0 ≤ x ∧ x < n) && decide (0 < c x.toNat)
theorem jar_in {n : Nat} {c : Nat → Int} {x : Int} {P : D → Sto → Prop} : W (g_Jar_uucontainsuu A [jarD A n c, .int x]) st P = P (.bl (inB n c x)) st := callE rfl (by
  unfold b_Jar_uucontainsuu inB
  by_cases h : 0 ≤ x ∧ x < (n : Nat)
  · obtain ⟨k, rfl⟩ : ∃ k : Nat, x = (k : Nat) := ⟨x.toNat, (Int.toNat_of_nonneg h.1).symm⟩
    have hk : k < n := by omega
    simp only [w_bind, w_pure, w_var, w_c, w_op2, w_nil, w_cons, w_tup, w_lst, w_newL, w_sub, w_add, w_mod, w_divE, w_powE, w_mulE, w_cmp, w_bD, w_eB, w_eTru, w_truB, w_ch, w_tand, w_tor, w_tnot, w_and, w_or, w_not, DL.w_next, w_ret, w_sif, w_expr, w_gN, w_asg, w_eCall, w_seq, goOn_nx, goOn_rt, w_lc, w_lcN, w_iR1, w_iR2, w_iSq, w_seqL, w_seqT, w_lenT, w_lenL, w_lenF, w_max, w_min, w_gSub, w_for, w_isi, w_if, w_tupleL, w_tupleT, w_listL, w_listT, w_listNT, w_listNL, w_neg, w_negI, w_eListR1, w_iZpA, w_iZp3A, w_iEnA, w_zpTT, w_zpTL, w_zpLT, w_zpLL, w_enAL, w_enAT, w_isN, w_isT, w_nisT, w_isB, w_nisB, w_isI, w_nisI, w_isL, w_nisL, w_gT2, w_gT3, w_intB, w_intI, w_eMake, w_fld1, w_prop1, w_meth1, w_sub1, w_or2a1, w_own, w_inO, w_eIf, w_eqI, w_neI, w_eqB, w_neB, isi_int_int, isi_int_bl, isi_int_non, isi_int_str, isi_int_lst, isi_int_tup, isi_int_dct, isi_bool_int, isi_bool_bl, isi_bool_non, isi_bool_str, isi_bool_lst, isi_bool_tup, isi_bool_dct, isi_str_int, isi_str_bl, isi_str_non, isi_str_str, isi_str_lst, isi_str_tup, isi_str_dct, isi_list_int, isi_list_bl, isi_list_non, isi_list_str, isi_list_lst, isi_list_tup, isi_list_dct, isi_tuple_int, isi_tuple_bl, isi_tuple_non, isi_tuple_str, isi_tuple_lst, isi_tuple_tup, isi_tuple_dct, isi_dict_int, isi_dict_bl, isi_dict_non, isi_dict_str, isi_dict_lst, isi_dict_tup, isi_dict_dct, isi_lt_int, isi_o_int, isi_lt_bl, isi_o_bl, isi_lt_non, isi_o_non, isi_lt_str, isi_o_str, isi_lt_lst, isi_o_lst, isi_lt_tup, isi_o_tup, isi_lt_dct, isi_o_dct, isi_own, mapR_len, rngD_length, enumD_mapR, zip_mapR, zip3_mapR, rng0, rngA, List.length_map, startD, wipeD, List.map_cons, List.map_nil, List.length_cons, List.length_nil, List.replicate, List.cons_append, List.nil_append, List.append_nil, List.getElem?_cons_zero, List.getElem?_cons_succ, List.set_cons_succ, List.set_cons_zero, Bool.not_true, Bool.not_false, if_true, if_false, Bool.false_eq_true, decide_true, decide_false, true_and, and_true, and_self, and_imp, Int.zero_add, le2, le3, le4, le1, le0, Nat.sub_zero, Bool.true_and, Bool.and_true, Bool.false_and, Bool.and_false, Bool.true_or, Bool.false_or, Bool.or_false, Bool.or_true, beq_self_eq_true, not_true_eq_false, not_false_eq_true, decide_eq_true_eq, fldC1, ofC'1, par2_2, par3_3, w_par2E, w_par3E, w_slD, w_slF, w_eSlice, w_eNoP, w_eP, w_intO, w_gT21, w_zpLLT, w_truO1, w_binO, w_ninO, w_eCM, w_eqLL, w_neLL, w_eqTT, w_neTT, lcY_nil, lcY_cons, w_all2, at2_0, at2_1, at3_0, at3_1, at3_2, at4_0, at4_1, at4_2, at4_3, itm_some, ixLE, ixFE, ixTE, ixO0, setO0, put_some, ix2_0, ix2_1, ix4_0, ix4_1, ix4_2, ix4_3, false_and, and_false, implies_true, w_eClr, w_slAL, w_slAF, w_seqG, w_lenG, w_enAG, w_tupleG, ixGE, isi_lt_G, w_nisN, w_binI, w_eApp, w_eMakeF, isLO_b, ix_b, augIE, w_eMv, w_one, okTg_self, at_behind, set_behind, Nat.reduceAdd, Int.reduceLT, Int.reduceLE, Int.reduceToNat, Nat.reduceLT, Nat.reduceLeDiff, Nat.reduceEqDiff, Int.reduceAbs, Int.reduceAdd, Int.reduceEq, Int.reduceNeg, Int.reduceSub, Int.reduceMul, Nat.reduceSub, Int.cast_ofNat_Int, Int.natCast_zero, Int.natCast_one, is_col_i, h, mapR_at hk, belowD, Int.toNat_natCast]
  · simp only [w_bind, w_pure, w_var, w_c, w_op2, w_nil, w_cons, w_tup, w_lst, w_newL, w_sub, w_add, w_mod, w_divE, w_powE, w_mulE, w_cmp, w_bD, w_eB, w_eTru, w_truB, w_ch, w_tand, w_tor, w_tnot, w_and, w_or, w_not, DL.w_next, w_ret, w_sif, w_expr, w_gN, w_asg, w_eCall, w_seq, goOn_nx, goOn_rt, w_lc, w_lcN, w_iR1, w_iR2, w_iSq, w_seqL, w_seqT, w_lenT, w_lenL, w_lenF, w_max, w_min, w_gSub, w_for, w_isi, w_if, w_tupleL, w_tupleT, w_listL, w_listT, w_listNT, w_listNL, w_neg, w_negI, w_eListR1, w_iZpA, w_iZp3A, w_iEnA, w_zpTT, w_zpTL, w_zpLT, w_zpLL, w_enAL, w_enAT, w_isN, w_isT, w_nisT, w_isB, w_nisB, w_isI, w_nisI, w_isL, w_nisL, w_gT2, w_gT3, w_intB, w_intI, w_eMake, w_fld1, w_prop1, w_meth1, w_sub1, w_or2a1, w_own, w_inO, w_eIf, w_eqI, w_neI, w_eqB, w_neB, isi_int_int, isi_int_bl, isi_int_non, isi_int_str, isi_int_lst, isi_int_tup, isi_int_dct, isi_bool_int, isi_bool_bl, isi_bool_non, isi_bool_str, isi_bool_lst, isi_bool_tup, isi_bool_dct, isi_str_int, isi_str_bl, isi_str_non, isi_str_str, isi_str_lst, isi_str_tup, isi_str_dct, isi_list_int, isi_list_bl, isi_list_non, isi_list_str, isi_list_lst, isi_list_tup, isi_list_dct, isi_tuple_int, isi_tuple_bl, isi_tuple_non, isi_tuple_str, isi_tuple_lst, isi_tuple_tup, isi_tuple_dct, isi_dict_int, isi_dict_bl, isi_dict_non, isi_dict_str, isi_dict_lst, isi_dict_tup, isi_dict_dct, isi_lt_int, isi_o_int, isi_lt_bl, isi_o_bl, isi_lt_non, isi_o_non, isi_lt_str, isi_o_str, isi_lt_lst, isi_o_lst, isi_lt_tup, isi_o_tup, isi_lt_dct, isi_o_dct, isi_own, mapR_len, rngD_length, enumD_mapR, zip_mapR, zip3_mapR, rng0, rngA, List.length_map, startD, wipeD, List.map_cons, List.map_nil, List.length_cons, List.length_nil, List.replicate, List.cons_append, List.nil_append, List.append_nil, List.getElem?_cons_zero, List.getElem?_cons_succ, List.set_cons_succ, List.set_cons_zero, Bool.not_true, Bool.not_false, if_true, if_false, Bool.false_eq_true, decide_true, decide_false, true_and, and_true, and_self, and_imp, Int.zero_add, le2, le3, le4, le1, le0, Nat.sub_zero, Bool.true_and, Bool.and_true, Bool.false_and, Bool.and_false, Bool.true_or, Bool.false_or, Bool.or_false, Bool.or_true, beq_self_eq_true, not_true_eq_false, not_false_eq_true, decide_eq_true_eq, fldC1, ofC'1, par2_2, par3_3, w_par2E, w_par3E, w_slD, w_slF, w_eSlice, w_eNoP, w_eP, w_intO, w_gT21, w_zpLLT, w_truO1, w_binO, w_ninO, w_eCM, w_eqLL, w_neLL, w_eqTT, w_neTT, lcY_nil, lcY_cons, w_all2, at2_0, at2_1, at3_0, at3_1, at3_2, at4_0, at4_1, at4_2, at4_3, itm_some, ixLE, ixFE, ixTE, ixO0, setO0, put_some, ix2_0, ix2_1, ix4_0, ix4_1, ix4_2, ix4_3, false_and, and_false, implies_true, w_eClr, w_slAL, w_slAF, w_seqG, w_lenG, w_enAG, w_tupleG, ixGE, isi_lt_G, w_nisN, w_binI, w_eApp, w_eMakeF, isLO_b, ix_b, augIE, w_eMv, w_one, okTg_self, at_behind, set_behind, Nat.reduceAdd, Int.reduceLT, Int.reduceLE, Int.reduceToNat, Nat.reduceLT, Nat.reduceLeDiff, Nat.reduceEqDiff, Int.reduceAbs, Int.reduceAdd, Int.reduceEq, Int.reduceNeg, Int.reduceSub, Int.reduceMul, Nat.reduceSub, Int.cast_ofNat_Int, Int.natCast_zero, Int.natCast_one, is_col_i, h, belowD])
theorem jar_in_nat {n i : Nat} {c : Nat → Int} (hi : i < n) {P : D → Sto → Prop} : W (g_Jar_uucontainsuu A [jarD A n c, .int (i : Nat)]) st P = P (.bl (decide (0 < c i))) st := by
  rw [jar_in]
  unfold inB
  rw [decide_eq_true (show (0 : Int) ≤ (i : Nat) ∧ ((i : Nat) : Int) < n by omega), Bool.true_and, Int.toNat_natCast]
theorem jar_in_no {n : Nat} {c : Nat → Int} {d : D} (h : ∀ {P : D → Sto → Prop}, W (g_is_integer A [d]) st P = P (.bl false) st) {P : D → Sto → Prop} : W (g_Jar_uucontainsuu A [jarD A n c, d]) st P = P (.bl false) st := callE rfl (by
  unfold b_Jar_uucontainsuu
  simp only [w_bind, w_pure, w_var, w_c, w_op2, w_nil, w_cons, w_tup, w_lst, w_newL, w_sub, w_add, w_mod, w_divE, w_powE, w_mulE, w_cmp, w_bD, w_eB, w_eTru, w_truB, w_ch, w_tand, w_tor, w_tnot, w_and, w_or, w_not, DL.w_next, w_ret, w_sif, w_expr, w_gN, w_asg, w_eCall, w_seq, goOn_nx, goOn_rt, w_lc, w_lcN, w_iR1, w_iR2, w_iSq, w_seqL, w_seqT, w_lenT, w_lenL, w_lenF, w_max, w_min, w_gSub, w_for, w_isi, w_if, w_tupleL, w_tupleT, w_listL, w_listT, w_listNT, w_listNL, w_neg, w_negI, w_eListR1, w_iZpA, w_iZp3A, w_iEnA, w_zpTT, w_zpTL, w_zpLT, w_zpLL, w_enAL, w_enAT, w_isN, w_isT, w_nisT, w_isB, w_nisB, w_isI, w_nisI, w_isL, w_nisL, w_gT2, w_gT3, w_intB, w_intI, w_eMake, w_fld1, w_prop1, w_meth1, w_sub1, w_or2a1, w_own, w_inO, w_eIf, w_eqI, w_neI, w_eqB, w_neB, isi_int_int, isi_int_bl, isi_int_non, isi_int_str, isi_int_lst, isi_int_tup, isi_int_dct, isi_bool_int, isi_bool_bl, isi_bool_non, isi_bool_str, isi_bool_lst, isi_bool_tup, isi_bool_dct, isi_str_int, isi_str_bl, isi_str_non, isi_str_str, isi_str_lst, isi_str_tup, isi_str_dct, isi_list_int, isi_list_bl, isi_list_non, isi_list_str, isi_list_lst, isi_list_tup, isi_list_dct, isi_tuple_int, isi_tuple_bl, isi_tuple_non, isi_tuple_str, isi_tuple_lst, isi_tuple_tup, isi_tuple_dct, isi_dict_int, isi_dict_bl, isi_dict_non, isi_dict_str, isi_dict_lst, isi_dict_tup, isi_dict_dct, isi_lt_int, isi_o_int, isi_lt_bl, isi_o_bl, isi_lt_non, isi_o_non, isi_lt_str, isi_o_str, isi_lt_lst, isi_o_lst, isi_lt_tup, isi_o_tup, isi_lt_dct, isi_o_dct, isi_own, mapR_len, rngD_length, enumD_mapR, zip_mapR, zip3_mapR, rng0, rngA, List.length_map, startD, wipeD, List.map_cons, List.map_nil, List.length_cons, List.length_nil, List.replicate, List.cons_append, List.nil_append, List.append_nil, List.getElem?_cons_zero, List.getElem?_cons_succ, List.set_cons_succ, List.set_cons_zero, Bool.not_true, Bool.not_false, if_true, if_false, Bool.false_eq_true, decide_true, decide_false, true_and, and_true, and_self, and_imp, Int.zero_add, le2, le3, le4, le1, le0, Nat.sub_zero, Bool.true_and, Bool.and_true, Bool.false_and, Bool.and_false, Bool.true_or, Bool.false_or, Bool.or_false, Bool.or_true, beq_self_eq_true, not_true_eq_false, not_false_eq_true, decide_eq_true_eq, fldC1, ofC'1, par2_2, par3_3, w_par2E, w_par3E, w_slD, w_slF, w_eSlice, w_eNoP, w_eP, w_intO, w_gT21, w_zpLLT, w_truO1, w_binO, w_ninO, w_eCM, w_eqLL, w_neLL, w_eqTT, w_neTT, lcY_nil, lcY_cons, w_all2, at2_0, at2_1, at3_0, at3_1, at3_2, at4_0, at4_1, at4_2, at4_3, itm_some, ixLE, ixFE, ixTE, ixO0, setO0, put_some, ix2_0, ix2_1, ix4_0, ix4_1, ix4_2, ix4_3, false_and, and_false, implies_true, w_eClr, w_slAL, w_slAF, w_seqG, w_lenG, w_enAG, w_tupleG, ixGE, isi_lt_G, w_nisN, w_binI, w_eApp, w_eMakeF, isLO_b, ix_b, augIE, w_eMv, w_one, okTg_self, at_behind, set_behind, Nat.reduceAdd, Int.reduceLT, Int.reduceLE, Int.reduceToNat, Nat.reduceLT, Nat.reduceLeDiff, Nat.reduceEqDiff, Int.reduceAbs, Int.reduceAdd, Int.reduceEq, Int.reduceNeg, Int.reduceSub, Int.reduceMul, Nat.reduceSub, Int.cast_ofNat_Int, Int.natCast_zero, Int.natCast_one, is_col_no h, belowD])
theorem jar_bool {n : Nat} {c : Nat → Int} {P : D → Sto → Prop} : W (g_Jar_uubooluu A [jarD A n c]) st P = P (.bl ((mapR n fun i => c i != 0).any id)) st := callE rfl (by unfold b_Jar_uubooluu; simp only [w_bind, w_pure, w_var, w_c, w_op2, w_nil, w_cons, w_tup, w_lst, w_newL, w_sub, w_add, w_mod, w_divE, w_powE, w_mulE, w_cmp, w_bD, w_eB, w_eTru, w_truB, w_ch, w_tand, w_tor, w_tnot, w_and, w_or, w_not, DL.w_next, w_ret, w_sif, w_expr, w_gN, w_asg, w_eCall, w_seq, goOn_nx, goOn_rt, w_lc, w_lcN, w_iR1, w_iR2, w_iSq, w_seqL, w_seqT, w_lenT, w_lenL, w_lenF, w_max, w_min, w_gSub, w_for, w_isi, w_if, w_tupleL, w_tupleT, w_listL, w_listT, w_listNT, w_listNL, w_neg, w_negI, w_eListR1, w_iZpA, w_iZp3A, w_iEnA, w_zpTT, w_zpTL, w_zpLT, w_zpLL, w_enAL, w_enAT, w_isN, w_isT, w_nisT, w_isB, w_nisB, w_isI, w_nisI, w_isL, w_nisL, w_gT2, w_gT3, w_intB, w_intI, w_eMake, w_fld1, w_prop1, w_meth1, w_sub1, w_or2a1, w_own, w_inO, w_eIf, w_eqI, w_neI, w_eqB, w_neB, isi_int_int, isi_int_bl, isi_int_non, isi_int_str, isi_int_lst, isi_int_tup, isi_int_dct, isi_bool_int, isi_bool_bl, isi_bool_non, isi_bool_str, isi_bool_lst, isi_bool_tup, isi_bool_dct, isi_str_int, isi_str_bl, isi_str_non, isi_str_str, isi_str_lst, isi_str_tup, isi_str_dct, isi_list_int, isi_list_bl, isi_list_non, isi_list_str, isi_list_lst, isi_list_tup, isi_list_dct, isi_tuple_int, isi_tuple_bl, isi_tuple_non, isi_tuple_str, isi_tuple_lst, isi_tuple_tup, isi_tuple_dct, isi_dict_int, isi_dict_bl, isi_dict_non, isi_dict_str, isi_dict_lst, isi_dict_tup, isi_dict_dct, isi_lt_int, isi_o_int, isi_lt_bl, isi_o_bl, isi_lt_non, isi_o_non, isi_lt_str, isi_o_str, isi_lt_lst, isi_o_lst, isi_lt_tup, isi_o_tup, isi_lt_dct, isi_o_dct, isi_own, mapR_len, rngD_length, enumD_mapR, zip_mapR, zip3_mapR, rng0, rngA, List.length_map, startD, wipeD, List.map_cons, List.map_nil, List.length_cons, List.length_nil, List.replicate, List.cons_append, List.nil_append, List.append_nil, List.getElem?_cons_zero, List.getElem?_cons_succ, List.set_cons_succ, List.set_cons_zero, Bool.not_true, Bool.not_false, if_true, if_false, Bool.false_eq_true, decide_true, decide_false, true_and, and_true, and_self, and_imp, Int.zero_add, le2, le3, le4, le1, le0, Nat.sub_zero, Bool.true_and, Bool.and_true, Bool.false_and, Bool.and_false, Bool.true_or, Bool.false_or, Bool.or_false, Bool.or_true, beq_self_eq_true, not_true_eq_false, not_false_eq_true, decide_eq_true_eq, fldC1, ofC'1, par2_2, par3_3, w_par2E, w_par3E, w_slD, w_slF, w_eSlice, w_eNoP, w_eP, w_intO, w_gT21, w_zpLLT, w_truO1, w_binO, w_ninO, w_eCM, w_eqLL, w_neLL, w_eqTT, w_neTT, lcY_nil, lcY_cons, w_all2, at2_0, at2_1, at3_0, at3_1, at3_2, at4_0, at4_1, at4_2, at4_3, itm_some, ixLE, ixFE, ixTE, ixO0, setO0, put_some, ix2_0, ix2_1, ix4_0, ix4_1, ix4_2, ix4_3, false_and, and_false, implies_true, w_eClr, w_slAL, w_slAF, w_seqG, w_lenG, w_enAG, w_tupleG, ixGE, isi_lt_G, w_nisN, w_binI, w_eApp, w_eMakeF, isLO_b, ix_b, augIE, w_eMv, w_one, okTg_self, at_behind, set_behind, Nat.reduceAdd, Int.reduceLT, Int.reduceLE, Int.reduceToNat, Nat.reduceLT, Nat.reduceLeDiff, Nat.reduceEqDiff, Int.reduceAbs, Int.reduceAdd, Int.reduceEq, Int.reduceNeg, Int.reduceSub, Int.reduceMul, Nat.reduceSub, Int.cast_ofNat_Int, Int.natCast_zero, Int.natCast_one, w_anyT, belowD])
theorem sum_nonneg {c : Nat → Int} : ∀ n, (∀ i, i < n → 0 ≤ c i) → 0 ≤ (mapR n c).sum
  | 0, _ => Int.le_refl _
  | n + 1, h => by
    rw [mapR_succ, List.sum_append]
    have a := sum_nonneg n fun i hi => h i (by omega)
    have b := h n (by omega)
    simp only [List.sum_cons, List.sum_nil]
    omega
theorem any_sum {c : Nat → Int} : ∀ n, (∀ i, i < n → 0 ≤ c i) → (mapR n fun i => c i != 0).any id = decide (0 < (mapR n c).sum)
  | 0, _ => rfl
  | n + 1, h => by
    rw [mapR_succ, mapR_succ, List.any_append, any_sum n fun i hi => h i (by omega), List.sum_append]
    have a := sum_nonneg n fun i hi => h i (by omega)
    have b := h n (by omega)
    simp only [List.any_cons, List.any_nil, Bool.or_false, List.sum_cons, List.sum_nil, id]
    by_cases q : c n = 0
    · rw [q]; simp
    · have e1 : (c n != 0) = true := by simpa using q
      rw [e1, Bool.or_true]
      exact (decide_eq_true (by omega)).symm
theorem jar_eq {n : Nat} {c c' : Nat → Int} {P : D → Sto → Prop} : W (g_Jar_uuequu A [jarD A n c, jarD A n c']) st P = P (.bl (decide (mapR n c = mapR n c'))) st := callE rfl (by
  unfold b_Jar_uuequu
  simp only [w_bind, w_pure, w_var, w_c, w_op2, w_nil, w_cons, w_tup, w_lst, w_newL, w_sub, w_add, w_mod, w_divE, w_powE, w_mulE, w_cmp, w_bD, w_eB, w_eTru, w_truB, w_ch, w_tand, w_tor, w_tnot, w_and, w_or, w_not, DL.w_next, w_ret, w_sif, w_expr, w_gN, w_asg, w_eCall, w_seq, goOn_nx, goOn_rt, w_lc, w_lcN, w_iR1, w_iR2, w_iSq, w_seqL, w_seqT, w_lenT, w_lenL, w_lenF, w_max, w_min, w_gSub, w_for, w_isi, w_if, w_tupleL, w_tupleT, w_listL, w_listT, w_listNT, w_listNL, w_neg, w_negI, w_eListR1, w_iZpA, w_iZp3A, w_iEnA, w_zpTT, w_zpTL, w_zpLT, w_zpLL, w_enAL, w_enAT, w_isN, w_isT, w_nisT, w_isB, w_nisB, w_isI, w_nisI, w_isL, w_nisL, w_gT2, w_gT3, w_intB, w_intI, w_eMake, w_fld1, w_prop1, w_meth1, w_sub1, w_or2a1, w_own, w_inO, w_eIf, w_eqI, w_neI, w_eqB, w_neB, isi_int_int, isi_int_bl, isi_int_non, isi_int_str, isi_int_lst, isi_int_tup, isi_int_dct, isi_bool_int, isi_bool_bl, isi_bool_non, isi_bool_str, isi_bool_lst, isi_bool_tup, isi_bool_dct, isi_str_int, isi_str_bl, isi_str_non, isi_str_str, isi_str_lst, isi_str_tup, isi_str_dct, isi_list_int, isi_list_bl, isi_list_non, isi_list_str, isi_list_lst, isi_list_tup, isi_list_dct, isi_tuple_int, isi_tuple_bl, isi_tuple_non, isi_tuple_str, isi_tuple_lst, isi_tuple_tup, isi_tuple_dct, isi_dict_int, isi_dict_bl, isi_dict_non, isi_dict_str, isi_dict_lst, isi_dict_tup, isi_dict_dct, isi_lt_int, isi_o_int, isi_lt_bl, isi_o_bl, isi_lt_non, isi_o_non, isi_lt_str, isi_o_str, isi_lt_lst, isi_o_lst, isi_lt_tup, isi_o_tup, isi_lt_dct, isi_o_dct, isi_own, mapR_len, rngD_length, enumD_mapR, zip_mapR, zip3_mapR, rng0, rngA, List.length_map, startD, wipeD, List.map_cons, List.map_nil, List.length_cons, List.length_nil, List.replicate, List.cons_append, List.nil_append, List.append_nil, List.getElem?_cons_zero, List.getElem?_cons_succ, List.set_cons_succ, List.set_cons_zero, Bool.not_true, Bool.not_false, if_true, if_false, Bool.false_eq_true, decide_true, decide_false, true_and, and_true, and_self, and_imp, Int.zero_add, le2, le3, le4, le1, le0, Nat.sub_zero, Bool.true_and, Bool.and_true, Bool.false_and, Bool.and_false, Bool.true_or, Bool.false_or, Bool.or_false, Bool.or_true, beq_self_eq_true, not_true_eq_false, not_false_eq_true, decide_eq_true_eq, fldC1, ofC'1, par2_2, par3_3, w_par2E, w_par3E, w_slD, w_slF, w_eSlice, w_eNoP, w_eP, w_intO, w_gT21, w_zpLLT, w_truO1, w_binO, w_ninO, w_eCM, w_eqLL, w_neLL, w_eqTT, w_neTT, lcY_nil, lcY_cons, w_all2, at2_0, at2_1, at3_0, at3_1, at3_2, at4_0, at4_1, at4_2, at4_3, itm_some, ixLE, ixFE, ixTE, ixO0, setO0, put_some, ix2_0, ix2_1, ix4_0, ix4_1, ix4_2, ix4_3, false_and, and_false, implies_true, w_eClr, w_slAL, w_slAF, w_seqG, w_lenG, w_enAG, w_tupleG, ixGE, isi_lt_G, w_nisN, w_binI, w_eApp, w_eMakeF, isLO_b, ix_b, augIE, w_eMv, w_one, okTg_self, at_behind, set_behind, Nat.reduceAdd, Int.reduceLT, Int.reduceLE, Int.reduceToNat, Nat.reduceLT, Nat.reduceLeDiff, Nat.reduceEqDiff, Int.reduceAbs, Int.reduceAdd, Int.reduceEq, Int.reduceNeg, Int.reduceSub, Int.reduceMul, Nat.reduceSub, Int.cast_ofNat_Int, Int.natCast_zero, Int.natCast_one, belowD])
theorem jar_eq_no {n : Nat} {c : Nat → Int} {d : D} (h : ∀ {P : D → Sto → Prop}, W (isiD (anO A.C_Jar []) d) st P = P (.bl false) st) {P : D → Sto → Prop} : W (g_Jar_uuequu A [jarD A n c, d]) st P = P (.bl false) st := callE rfl (by
  unfold b_Jar_uuequu
  simp only [w_bind, w_pure, w_var, w_c, w_op2, w_nil, w_cons, w_tup, w_lst, w_newL, w_sub, w_add, w_mod, w_divE, w_powE, w_mulE, w_cmp, w_bD, w_eB, w_eTru, w_truB, w_ch, w_tand, w_tor, w_tnot, w_and, w_or, w_not, DL.w_next, w_ret, w_sif, w_expr, w_gN, w_asg, w_eCall, w_seq, goOn_nx, goOn_rt, w_lc, w_lcN, w_iR1, w_iR2, w_iSq, w_seqL, w_seqT, w_lenT, w_lenL, w_lenF, w_max, w_min, w_gSub, w_for, w_isi, w_if, w_tupleL, w_tupleT, w_listL, w_listT, w_listNT, w_listNL, w_neg, w_negI, w_eListR1, w_iZpA, w_iZp3A, w_iEnA, w_zpTT, w_zpTL, w_zpLT, w_zpLL, w_enAL, w_enAT, w_isN, w_isT, w_nisT, w_isB, w_nisB, w_isI, w_nisI, w_isL, w_nisL, w_gT2, w_gT3, w_intB, w_intI, w_eMake, w_fld1, w_prop1, w_meth1, w_sub1, w_or2a1, w_own, w_inO, w_eIf, w_eqI, w_neI, w_eqB, w_neB, isi_int_int, isi_int_bl, isi_int_non, isi_int_str, isi_int_lst, isi_int_tup, isi_int_dct, isi_bool_int, isi_bool_bl, isi_bool_non, isi_bool_str, isi_bool_lst, isi_bool_tup, isi_bool_dct, isi_str_int, isi_str_bl, isi_str_non, isi_str_str, isi_str_lst, isi_str_tup, isi_str_dct, isi_list_int, isi_list_bl, isi_list_non, isi_list_str, isi_list_lst, isi_list_tup, isi_list_dct, isi_tuple_int, isi_tuple_bl, isi_tuple_non, isi_tuple_str, isi_tuple_lst, isi_tuple_tup, isi_tuple_dct, isi_dict_int, isi_dict_bl, isi_dict_non, isi_dict_str, isi_dict_lst, isi_dict_tup, isi_dict_dct, isi_lt_int, isi_o_int, isi_lt_bl, isi_o_bl, isi_lt_non, isi_o_non, isi_lt_str, isi_o_str, isi_lt_lst, isi_o_lst, isi_lt_tup, isi_o_tup, isi_lt_dct, isi_o_dct, isi_own, mapR_len, rngD_length, enumD_mapR, zip_mapR, zip3_mapR, rng0, rngA, List.length_map, startD, wipeD, List.map_cons, List.map_nil, List.length_cons, List.length_nil, List.replicate, List.cons_append, List.nil_append, List.append_nil, List.getElem?_cons_zero, List.getElem?_cons_succ, List.set_cons_succ, List.set_cons_zero, Bool.not_true, Bool.not_false, if_true, if_false, Bool.false_eq_true, decide_true, decide_false, true_and, and_true, and_self, and_imp, Int.zero_add, le2, le3, le4, le1, le0, Nat.sub_zero, Bool.true_and, Bool.and_true, Bool.false_and, Bool.and_false, Bool.true_or, Bool.false_or, Bool.or_false, Bool.or_true, beq_self_eq_true, not_true_eq_false, not_false_eq_true, decide_eq_true_eq, fldC1, ofC'1, par2_2, par3_3, w_par2E, w_par3E, w_slD, w_slF, w_eSlice, w_eNoP, w_eP, w_intO, w_gT21, w_zpLLT, w_truO1, w_binO, w_ninO, w_eCM, w_eqLL, w_neLL, w_eqTT, w_neTT, lcY_nil, lcY_cons, w_all2, at2_0, at2_1, at3_0, at3_1, at3_2, at4_0, at4_1, at4_2, at4_3, itm_some, ixLE, ixFE, ixTE, ixO0, setO0, put_some, ix2_0, ix2_1, ix4_0, ix4_1, ix4_2, ix4_3, false_and, and_false, implies_true, w_eClr, w_slAL, w_slAF, w_seqG, w_lenG, w_enAG, w_tupleG, ixGE, isi_lt_G, w_nisN, w_binI, w_eApp, w_eMakeF, isLO_b, ix_b, augIE, w_eMv, w_one, okTg_self, at_behind, set_behind, Nat.reduceAdd, Int.reduceLT, Int.reduceLE, Int.reduceToNat, Nat.reduceLT, Nat.reduceLeDiff, Nat.reduceEqDiff, Int.reduceAbs, Int.reduceAdd, Int.reduceEq, Int.reduceNeg, Int.reduceSub, Int.reduceMul, Nat.reduceSub, Int.cast_ofNat_Int, Int.natCast_zero, Int.natCast_one, h, belowD])
theorem jar_mul {n : Nat} {c : Nat → Int} {k : Int} (hn : n ≤ 8) (hn1 : 1 ≤ n) (hc : ∀ i, i < n → 0 ≤ c i) (hk : 0 ≤ k) (hk2 : k < 2 ^ 64) {P : D → Sto → Prop} : W (g_Jar_uumuluu A [jarD A n c, .int k]) st P = P (jarD A n fun i => c i * k) st := callE rfl (by
  unfold b_Jar_uumuluu
  have hl : n ≤ sizeLine := line_le (by omega)
  have m : ∀ i : Int, mulOk i k := fun i => mulOk_r (by omega) hk2
  simp only [w_bind, w_pure, w_var, w_c, w_op2, w_nil, w_cons, w_tup, w_lst, w_newL, w_sub, w_add, w_mod, w_divE, w_powE, w_mulE, w_cmp, w_bD, w_eB, w_eTru, w_truB, w_ch, w_tand, w_tor, w_tnot, w_and, w_or, w_not, DL.w_next, w_ret, w_sif, w_expr, w_gN, w_asg, w_eCall, w_seq, goOn_nx, goOn_rt, w_lc, w_lcN, w_iR1, w_iR2, w_iSq, w_seqL, w_seqT, w_lenT, w_lenL, w_lenF, w_max, w_min, w_gSub, w_for, w_isi, w_if, w_tupleL, w_tupleT, w_listL, w_listT, w_listNT, w_listNL, w_neg, w_negI, w_eListR1, w_iZpA, w_iZp3A, w_iEnA, w_zpTT, w_zpTL, w_zpLT, w_zpLL, w_enAL, w_enAT, w_isN, w_isT, w_nisT, w_isB, w_nisB, w_isI, w_nisI, w_isL, w_nisL, w_gT2, w_gT3, w_intB, w_intI, w_eMake, w_fld1, w_prop1, w_meth1, w_sub1, w_or2a1, w_own, w_inO, w_eIf, w_eqI, w_neI, w_eqB, w_neB, isi_int_int, isi_int_bl, isi_int_non, isi_int_str, isi_int_lst, isi_int_tup, isi_int_dct, isi_bool_int, isi_bool_bl, isi_bool_non, isi_bool_str, isi_bool_lst, isi_bool_tup, isi_bool_dct, isi_str_int, isi_str_bl, isi_str_non, isi_str_str, isi_str_lst, isi_str_tup, isi_str_dct, isi_list_int, isi_list_bl, isi_list_non, isi_list_str, isi_list_lst, isi_list_tup, isi_list_dct, isi_tuple_int, isi_tuple_bl, isi_tuple_non, isi_tuple_str, isi_tuple_lst, isi_tuple_tup, isi_tuple_dct, isi_dict_int, isi_dict_bl, isi_dict_non, isi_dict_str, isi_dict_lst, isi_dict_tup, isi_dict_dct, isi_lt_int, isi_o_int, isi_lt_bl, isi_o_bl, isi_lt_non, isi_o_non, isi_lt_str, isi_o_str, isi_lt_lst, isi_o_lst, isi_lt_tup, isi_o_tup, isi_lt_dct, isi_o_dct, isi_own, mapR_len, rngD_length, enumD_mapR, zip_mapR, zip3_mapR, rng0, rngA, List.length_map, startD, wipeD, List.map_cons, List.map_nil, List.length_cons, List.length_nil, List.replicate, List.cons_append, List.nil_append, List.append_nil, List.getElem?_cons_zero, List.getElem?_cons_succ, List.set_cons_succ, List.set_cons_zero, Bool.not_true, Bool.not_false, if_true, if_false, Bool.false_eq_true, decide_true, decide_false, true_and, and_true, and_self, and_imp, Int.zero_add, le2, le3, le4, le1, le0, Nat.sub_zero, Bool.true_and, Bool.and_true, Bool.false_and, Bool.and_false, Bool.true_or, Bool.false_or, Bool.or_false, Bool.or_true, beq_self_eq_true, not_true_eq_false, not_false_eq_true, decide_eq_true_eq, fldC1, ofC'1, par2_2, par3_3, w_par2E, w_par3E, w_slD, w_slF, w_eSlice, w_eNoP, w_eP, w_intO, w_gT21, w_zpLLT, w_truO1, w_binO, w_ninO, w_eCM, w_eqLL, w_neLL, w_eqTT, w_neTT, lcY_nil, lcY_cons, w_all2, at2_0, at2_1, at3_0, at3_1, at3_2, at4_0, at4_1, at4_2, at4_3, itm_some, ixLE, ixFE, ixTE, ixO0, setO0, put_some, ix2_0, ix2_1, ix4_0, ix4_1, ix4_2, ix4_3, false_and, and_false, implies_true, w_eClr, w_slAL, w_slAF, w_seqG, w_lenG, w_enAG, w_tupleG, ixGE, isi_lt_G, w_nisN, w_binI, w_eApp, w_eMakeF, isLO_b, ix_b, augIE, w_eMv, w_one, okTg_self, at_behind, set_behind, Nat.reduceAdd, Int.reduceLT, Int.reduceLE, Int.reduceToNat, Nat.reduceLT, Nat.reduceLeDiff, Nat.reduceEqDiff, Int.reduceAbs, Int.reduceAdd, Int.reduceEq, Int.reduceNeg, Int.reduceSub, Int.reduceMul, Nat.reduceSub, Int.cast_ofNat_Int, Int.natCast_zero, Int.natCast_one, is_cnt_i, hk, hl]
  rw [lcE (f := fun i => .int (c i * k)) fun i hi => by simp only [w_bind, w_pure, w_var, w_c, w_op2, w_nil, w_cons, w_tup, w_lst, w_newL, w_sub, w_add, w_mod, w_divE, w_powE, w_mulE, w_cmp, w_bD, w_eB, w_eTru, w_truB, w_ch, w_tand, w_tor, w_tnot, w_and, w_or, w_not, DL.w_next, w_ret, w_sif, w_expr, w_gN, w_asg, w_eCall, w_seq, goOn_nx, goOn_rt, w_lc, w_lcN, w_iR1, w_iR2, w_iSq, w_seqL, w_seqT, w_lenT, w_lenL, w_lenF, w_max, w_min, w_gSub, w_for, w_isi, w_if, w_tupleL, w_tupleT, w_listL, w_listT, w_listNT, w_listNL, w_neg, w_negI, w_eListR1, w_iZpA, w_iZp3A, w_iEnA, w_zpTT, w_zpTL, w_zpLT, w_zpLL, w_enAL, w_enAT, w_isN, w_isT, w_nisT, w_isB, w_nisB, w_isI, w_nisI, w_isL, w_nisL, w_gT2, w_gT3, w_intB, w_intI, w_eMake, w_fld1, w_prop1, w_meth1, w_sub1, w_or2a1, w_own, w_inO, w_eIf, w_eqI, w_neI, w_eqB, w_neB, isi_int_int, isi_int_bl, isi_int_non, isi_int_str, isi_int_lst, isi_int_tup, isi_int_dct, isi_bool_int, isi_bool_bl, isi_bool_non, isi_bool_str, isi_bool_lst, isi_bool_tup, isi_bool_dct, isi_str_int, isi_str_bl, isi_str_non, isi_str_str, isi_str_lst, isi_str_tup, isi_str_dct, isi_list_int, isi_list_bl, isi_list_non, isi_list_str, isi_list_lst, isi_list_tup, isi_list_dct, isi_tuple_int, isi_tuple_bl, isi_tuple_non, isi_tuple_str, isi_tuple_lst, isi_tuple_tup, isi_tuple_dct, isi_dict_int, isi_dict_bl, isi_dict_non, isi_dict_str, isi_dict_lst, isi_dict_tup, isi_dict_dct, isi_lt_int, isi_o_int, isi_lt_bl, isi_o_bl, isi_lt_non, isi_o_non, isi_lt_str, isi_o_str, isi_lt_lst, isi_o_lst, isi_lt_tup, isi_o_tup, isi_lt_dct, isi_o_dct, isi_own, mapR_len, rngD_length, enumD_mapR, zip_mapR, zip3_mapR, rng0, rngA, List.length_map, startD, wipeD, List.map_cons, List.map_nil, List.length_cons, List.length_nil, List.replicate, List.cons_append, List.nil_append, List.append_nil, List.getElem?_cons_zero, List.getElem?_cons_succ, List.set_cons_succ, List.set_cons_zero, Bool.not_true, Bool.not_false, if_true, if_false, Bool.false_eq_true, decide_true, decide_false, true_and, and_true, and_self, and_imp, Int.zero_add, le2, le3, le4, le1, le0, Nat.sub_zero, Bool.true_and, Bool.and_true, Bool.false_and, Bool.and_false, Bool.true_or, Bool.false_or, Bool.or_false, Bool.or_true, beq_self_eq_true, not_true_eq_false, not_false_eq_true, decide_eq_true_eq, fldC1, ofC'1, par2_2, par3_3, w_par2E, w_par3E, w_slD, w_slF, w_eSlice, w_eNoP, w_eP, w_intO, w_gT21, w_zpLLT, w_truO1, w_binO, w_ninO, w_eCM, w_eqLL, w_neLL, w_eqTT, w_neTT, lcY_nil, lcY_cons, w_all2, at2_0, at2_1, at3_0, at3_1, at3_2, at4_0, at4_1, at4_2, at4_3, itm_some, ixLE, ixFE, ixTE, ixO0, setO0, put_some, ix2_0, ix2_1, ix4_0, ix4_1, ix4_2, ix4_3, false_and, and_false, implies_true, w_eClr, w_slAL, w_slAF, w_seqG, w_lenG, w_enAG, w_tupleG, ixGE, isi_lt_G, w_nisN, w_binI, w_eApp, w_eMakeF, isLO_b, ix_b, augIE, w_eMv, w_one, okTg_self, at_behind, set_behind, Nat.reduceAdd, Int.reduceLT, Int.reduceLE, Int.reduceToNat, Nat.reduceLT, Nat.reduceLeDiff, Nat.reduceEqDiff, Int.reduceAbs, Int.reduceAdd, Int.reduceEq, Int.reduceNeg, Int.reduceSub, Int.reduceMul, Nat.reduceSub, Int.cast_ofNat_Int, Int.natCast_zero, Int.natCast_one, m]]
  simp only [w_bind, w_pure, w_var, w_c, w_op2, w_nil, w_cons, w_tup, w_lst, w_newL, w_sub, w_add, w_mod, w_divE, w_powE, w_mulE, w_cmp, w_bD, w_eB, w_eTru, w_truB, w_ch, w_tand, w_tor, w_tnot, w_and, w_or, w_not, DL.w_next, w_ret, w_sif, w_expr, w_gN, w_asg, w_eCall, w_seq, goOn_nx, goOn_rt, w_lc, w_lcN, w_iR1, w_iR2, w_iSq, w_seqL, w_seqT, w_lenT, w_lenL, w_lenF, w_max, w_min, w_gSub, w_for, w_isi, w_if, w_tupleL, w_tupleT, w_listL, w_listT, w_listNT, w_listNL, w_neg, w_negI, w_eListR1, w_iZpA, w_iZp3A, w_iEnA, w_zpTT, w_zpTL, w_zpLT, w_zpLL, w_enAL, w_enAT, w_isN, w_isT, w_nisT, w_isB, w_nisB, w_isI, w_nisI, w_isL, w_nisL, w_gT2, w_gT3, w_intB, w_intI, w_eMake, w_fld1, w_prop1, w_meth1, w_sub1, w_or2a1, w_own, w_inO, w_eIf, w_eqI, w_neI, w_eqB, w_neB, isi_int_int, isi_int_bl, isi_int_non, isi_int_str, isi_int_lst, isi_int_tup, isi_int_dct, isi_bool_int, isi_bool_bl, isi_bool_non, isi_bool_str, isi_bool_lst, isi_bool_tup, isi_bool_dct, isi_str_int, isi_str_bl, isi_str_non, isi_str_str, isi_str_lst, isi_str_tup, isi_str_dct, isi_list_int, isi_list_bl, isi_list_non, isi_list_str, isi_list_lst, isi_list_tup, isi_list_dct, isi_tuple_int, isi_tuple_bl, isi_tuple_non, isi_tuple_str, isi_tuple_lst, isi_tuple_tup, isi_tuple_dct, isi_dict_int, isi_dict_bl, isi_dict_non, isi_dict_str, isi_dict_lst, isi_dict_tup, isi_dict_dct, isi_lt_int, isi_o_int, isi_lt_bl, isi_o_bl, isi_lt_non, isi_o_non, isi_lt_str, isi_o_str, isi_lt_lst, isi_o_lst, isi_lt_tup, isi_o_tup, isi_lt_dct, isi_o_dct, isi_own, mapR_len, rngD_length, enumD_mapR, zip_mapR, zip3_mapR, rng0, rngA, List.length_map, startD, wipeD, List.map_cons, List.map_nil, List.length_cons, List.length_nil, List.replicate, List.cons_append, List.nil_append, List.append_nil, List.getElem?_cons_zero, List.getElem?_cons_succ, List.set_cons_succ, List.set_cons_zero, Bool.not_true, Bool.not_false, if_true, if_false, Bool.false_eq_true, decide_true, decide_false, true_and, and_true, and_self, and_imp, Int.zero_add, le2, le3, le4, le1, le0, Nat.sub_zero, Bool.true_and, Bool.and_true, Bool.false_and, Bool.and_false, Bool.true_or, Bool.false_or, Bool.or_false, Bool.or_true, beq_self_eq_true, not_true_eq_false, not_false_eq_true, decide_eq_true_eq, fldC1, ofC'1, par2_2, par3_3, w_par2E, w_par3E, w_slD, w_slF, w_eSlice, w_eNoP, w_eP, w_intO, w_gT21, w_zpLLT, w_truO1, w_binO, w_ninO, w_eCM, w_eqLL, w_neLL, w_eqTT, w_neTT, lcY_nil, lcY_cons, w_all2, at2_0, at2_1, at3_0, at3_1, at3_2, at4_0, at4_1, at4_2, at4_3, itm_some, ixLE, ixFE, ixTE, ixO0, setO0, put_some, ix2_0, ix2_1, ix4_0, ix4_1, ix4_2, ix4_3, false_and, and_false, implies_true, w_eClr, w_slAL, w_slAF, w_seqG, w_lenG, w_enAG, w_tupleG, ixGE, isi_lt_G, w_nisN, w_binI, w_eApp, w_eMakeF, isLO_b, ix_b, augIE, w_eMv, w_one, okTg_self, at_behind, set_behind, Nat.reduceAdd, Int.reduceLT, Int.reduceLE, Int.reduceToNat, Nat.reduceLT, Nat.reduceLeDiff, Nat.reduceEqDiff, Int.reduceAbs, Int.reduceAdd, Int.reduceEq, Int.reduceNeg, Int.reduceSub, Int.reduceMul, Nat.reduceSub, Int.cast_ofNat_Int, Int.natCast_zero, Int.natCast_one, jar_make (c := fun i => c i * k) hn hn1 fun i hi => Int.mul_nonneg (hc i hi) hk]
  exact below_jar)
theorem jar_sub {n : Nat} {c c' : Nat → Int} (hn : n ≤ 8) (hn1 : 1 ≤ n) (hc : ∀ i, i < n → c' i ≤ c i) {P : D → Sto → Prop} : W (g_Jar_uusubuu A [jarD A n c, jarD A n c']) st P = P (jarD A n fun i => c i - c' i) st := callE rfl (by
  unfold b_Jar_uusubuu
  have hl : n ≤ sizeLine := line_le (by omega)
  simp only [w_bind, w_pure, w_var, w_c, w_op2, w_nil, w_cons, w_tup, w_lst, w_newL, w_sub, w_add, w_mod, w_divE, w_powE, w_mulE, w_cmp, w_bD, w_eB, w_eTru, w_truB, w_ch, w_tand, w_tor, w_tnot, w_and, w_or, w_not, DL.w_next, w_ret, w_sif, w_expr, w_gN, w_asg, w_eCall, w_seq, goOn_nx, goOn_rt, w_lc, w_lcN, w_iR1, w_iR2, w_iSq, w_seqL, w_seqT, w_lenT, w_lenL, w_lenF, w_max, w_min, w_gSub, w_for, w_isi, w_if, w_tupleL, w_tupleT, w_listL, w_listT, w_listNT, w_listNL, w_neg, w_negI, w_eListR1, w_iZpA, w_iZp3A, w_iEnA, w_zpTT, w_zpTL, w_zpLT, w_zpLL, w_enAL, w_enAT, w_isN, w_isT, w_nisT, w_isB, w_nisB, w_isI, w_nisI, w_isL, w_nisL, w_gT2, w_gT3, w_intB, w_intI, w_eMake, w_fld1, w_prop1, w_meth1, w_sub1, w_or2a1, w_own, w_inO, w_eIf, w_eqI, w_neI, w_eqB, w_neB, isi_int_int, isi_int_bl, isi_int_non, isi_int_str, isi_int_lst, isi_int_tup, isi_int_dct, isi_bool_int, isi_bool_bl, isi_bool_non, isi_bool_str, isi_bool_lst, isi_bool_tup, isi_bool_dct, isi_str_int, isi_str_bl, isi_str_non, isi_str_str, isi_str_lst, isi_str_tup, isi_str_dct, isi_list_int, isi_list_bl, isi_list_non, isi_list_str, isi_list_lst, isi_list_tup, isi_list_dct, isi_tuple_int, isi_tuple_bl, isi_tuple_non, isi_tuple_str, isi_tuple_lst, isi_tuple_tup, isi_tuple_dct, isi_dict_int, isi_dict_bl, isi_dict_non, isi_dict_str, isi_dict_lst, isi_dict_tup, isi_dict_dct, isi_lt_int, isi_o_int, isi_lt_bl, isi_o_bl, isi_lt_non, isi_o_non, isi_lt_str, isi_o_str, isi_lt_lst, isi_o_lst, isi_lt_tup, isi_o_tup, isi_lt_dct, isi_o_dct, isi_own, mapR_len, rngD_length, enumD_mapR, zip_mapR, zip3_mapR, rng0, rngA, List.length_map, startD, wipeD, List.map_cons, List.map_nil, List.length_cons, List.length_nil, List.replicate, List.cons_append, List.nil_append, List.append_nil, List.getElem?_cons_zero, List.getElem?_cons_succ, List.set_cons_succ, List.set_cons_zero, Bool.not_true, Bool.not_false, if_true, if_false, Bool.false_eq_true, decide_true, decide_false, true_and, and_true, and_self, and_imp, Int.zero_add, le2, le3, le4, le1, le0, Nat.sub_zero, Bool.true_and, Bool.and_true, Bool.false_and, Bool.and_false, Bool.true_or, Bool.false_or, Bool.or_false, Bool.or_true, beq_self_eq_true, not_true_eq_false, not_false_eq_true, decide_eq_true_eq, fldC1, ofC'1, par2_2, par3_3, w_par2E, w_par3E, w_slD, w_slF, w_eSlice, w_eNoP, w_eP, w_intO, w_gT21, w_zpLLT, w_truO1, w_binO, w_ninO, w_eCM, w_eqLL, w_neLL, w_eqTT, w_neTT, lcY_nil, lcY_cons, w_all2, at2_0, at2_1, at3_0, at3_1, at3_2, at4_0, at4_1, at4_2, at4_3, itm_some, ixLE, ixFE, ixTE, ixO0, setO0, put_some, ix2_0, ix2_1, ix4_0, ix4_1, ix4_2, ix4_3, false_and, and_false, implies_true, w_eClr, w_slAL, w_slAF, w_seqG, w_lenG, w_enAG, w_tupleG, ixGE, isi_lt_G, w_nisN, w_binI, w_eApp, w_eMakeF, isLO_b, ix_b, augIE, w_eMv, w_one, okTg_self, at_behind, set_behind, Nat.reduceAdd, Int.reduceLT, Int.reduceLE, Int.reduceToNat, Nat.reduceLT, Nat.reduceLeDiff, Nat.reduceEqDiff, Int.reduceAbs, Int.reduceAdd, Int.reduceEq, Int.reduceNeg, Int.reduceSub, Int.reduceMul, Nat.reduceSub, Int.cast_ofNat_Int, Int.natCast_zero, Int.natCast_one, same_jars]
  refine forR (fun i hi => ?_) ?_
  · have h1 : (c i < c' i) = False := eq_false (by have := hc i hi; omega)
    simp only [w_bind, w_pure, w_var, w_c, w_op2, w_nil, w_cons, w_tup, w_lst, w_newL, w_sub, w_add, w_mod, w_divE, w_powE, w_mulE, w_cmp, w_bD, w_eB, w_eTru, w_truB, w_ch, w_tand, w_tor, w_tnot, w_and, w_or, w_not, DL.w_next, w_ret, w_sif, w_expr, w_gN, w_asg, w_eCall, w_seq, goOn_nx, goOn_rt, w_lc, w_lcN, w_iR1, w_iR2, w_iSq, w_seqL, w_seqT, w_lenT, w_lenL, w_lenF, w_max, w_min, w_gSub, w_for, w_isi, w_if, w_tupleL, w_tupleT, w_listL, w_listT, w_listNT, w_listNL, w_neg, w_negI, w_eListR1, w_iZpA, w_iZp3A, w_iEnA, w_zpTT, w_zpTL, w_zpLT, w_zpLL, w_enAL, w_enAT, w_isN, w_isT, w_nisT, w_isB, w_nisB, w_isI, w_nisI, w_isL, w_nisL, w_gT2, w_gT3, w_intB, w_intI, w_eMake, w_fld1, w_prop1, w_meth1, w_sub1, w_or2a1, w_own, w_inO, w_eIf, w_eqI, w_neI, w_eqB, w_neB, isi_int_int, isi_int_bl, isi_int_non, isi_int_str, isi_int_lst, isi_int_tup, isi_int_dct, isi_bool_int, isi_bool_bl, isi_bool_non, isi_bool_str, isi_bool_lst, isi_bool_tup, isi_bool_dct, isi_str_int, isi_str_bl, isi_str_non, isi_str_str, isi_str_lst, isi_str_tup, isi_str_dct, isi_list_int, isi_list_bl, isi_list_non, isi_list_str, isi_list_lst, isi_list_tup, isi_list_dct, isi_tuple_int, isi_tuple_bl, isi_tuple_non, isi_tuple_str, isi_tuple_lst, isi_tuple_tup, isi_tuple_dct, isi_dict_int, isi_dict_bl, isi_dict_non, isi_dict_str, isi_dict_lst, isi_dict_tup, isi_dict_dct, isi_lt_int, isi_o_int, isi_lt_bl, isi_o_bl, isi_lt_non, isi_o_non, isi_lt_str, isi_o_str, isi_lt_lst, isi_o_lst, isi_lt_tup, isi_o_tup, isi_lt_dct, isi_o_dct, isi_own, mapR_len, rngD_length, enumD_mapR, zip_mapR, zip3_mapR, rng0, rngA, List.length_map, startD, wipeD, List.map_cons, List.map_nil, List.length_cons, List.length_nil, List.replicate, List.cons_append, List.nil_append, List.append_nil, List.getElem?_cons_zero, List.getElem?_cons_succ, List.set_cons_succ, List.set_cons_zero, Bool.not_true, Bool.not_false, if_true, if_false, Bool.false_eq_true, decide_true, decide_false, true_and, and_true, and_self, and_imp, Int.zero_add, le2, le3, le4, le1, le0, Nat.sub_zero, Bool.true_and, Bool.and_true, Bool.false_and, Bool.and_false, Bool.true_or, Bool.false_or, Bool.or_false, Bool.or_true, beq_self_eq_true, not_true_eq_false, not_false_eq_true, decide_eq_true_eq, fldC1, ofC'1, par2_2, par3_3, w_par2E, w_par3E, w_slD, w_slF, w_eSlice, w_eNoP, w_eP, w_intO, w_gT21, w_zpLLT, w_truO1, w_binO, w_ninO, w_eCM, w_eqLL, w_neLL, w_eqTT, w_neTT, lcY_nil, lcY_cons, w_all2, at2_0, at2_1, at3_0, at3_1, at3_2, at4_0, at4_1, at4_2, at4_3, itm_some, ixLE, ixFE, ixTE, ixO0, setO0, put_some, ix2_0, ix2_1, ix4_0, ix4_1, ix4_2, ix4_3, false_and, and_false, implies_true, w_eClr, w_slAL, w_slAF, w_seqG, w_lenG, w_enAG, w_tupleG, ixGE, isi_lt_G, w_nisN, w_binI, w_eApp, w_eMakeF, isLO_b, ix_b, augIE, w_eMv, w_one, okTg_self, at_behind, set_behind, Nat.reduceAdd, Int.reduceLT, Int.reduceLE, Int.reduceToNat, Nat.reduceLT, Nat.reduceLeDiff, Nat.reduceEqDiff, Int.reduceAbs, Int.reduceAdd, Int.reduceEq, Int.reduceNeg, Int.reduceSub, Int.reduceMul, Nat.reduceSub, Int.cast_ofNat_Int, Int.natCast_zero, Int.natCast_one]
    refine w_scopeP ?_
    simp only [w_bind, w_pure, w_var, w_c, w_op2, w_nil, w_cons, w_tup, w_lst, w_newL, w_sub, w_add, w_mod, w_divE, w_powE, w_mulE, w_cmp, w_bD, w_eB, w_eTru, w_truB, w_ch, w_tand, w_tor, w_tnot, w_and, w_or, w_not, DL.w_next, w_ret, w_sif, w_expr, w_gN, w_asg, w_eCall, w_seq, goOn_nx, goOn_rt, w_lc, w_lcN, w_iR1, w_iR2, w_iSq, w_seqL, w_seqT, w_lenT, w_lenL, w_lenF, w_max, w_min, w_gSub, w_for, w_isi, w_if, w_tupleL, w_tupleT, w_listL, w_listT, w_listNT, w_listNL, w_neg, w_negI, w_eListR1, w_iZpA, w_iZp3A, w_iEnA, w_zpTT, w_zpTL, w_zpLT, w_zpLL, w_enAL, w_enAT, w_isN, w_isT, w_nisT, w_isB, w_nisB, w_isI, w_nisI, w_isL, w_nisL, w_gT2, w_gT3, w_intB, w_intI, w_eMake, w_fld1, w_prop1, w_meth1, w_sub1, w_or2a1, w_own, w_inO, w_eIf, w_eqI, w_neI, w_eqB, w_neB, isi_int_int, isi_int_bl, isi_int_non, isi_int_str, isi_int_lst, isi_int_tup, isi_int_dct, isi_bool_int, isi_bool_bl, isi_bool_non, isi_bool_str, isi_bool_lst, isi_bool_tup, isi_bool_dct, isi_str_int, isi_str_bl, isi_str_non, isi_str_str, isi_str_lst, isi_str_tup, isi_str_dct, isi_list_int, isi_list_bl, isi_list_non, isi_list_str, isi_list_lst, isi_list_tup, isi_list_dct, isi_tuple_int, isi_tuple_bl, isi_tuple_non, isi_tuple_str, isi_tuple_lst, isi_tuple_tup, isi_tuple_dct, isi_dict_int, isi_dict_bl, isi_dict_non, isi_dict_str, isi_dict_lst, isi_dict_tup, isi_dict_dct, isi_lt_int, isi_o_int, isi_lt_bl, isi_o_bl, isi_lt_non, isi_o_non, isi_lt_str, isi_o_str, isi_lt_lst, isi_o_lst, isi_lt_tup, isi_o_tup, isi_lt_dct, isi_o_dct, isi_own, mapR_len, rngD_length, enumD_mapR, zip_mapR, zip3_mapR, rng0, rngA, List.length_map, startD, wipeD, List.map_cons, List.map_nil, List.length_cons, List.length_nil, List.replicate, List.cons_append, List.nil_append, List.append_nil, List.getElem?_cons_zero, List.getElem?_cons_succ, List.set_cons_succ, List.set_cons_zero, Bool.not_true, Bool.not_false, if_true, if_false, Bool.false_eq_true, decide_true, decide_false, true_and, and_true, and_self, and_imp, Int.zero_add, le2, le3, le4, le1, le0, Nat.sub_zero, Bool.true_and, Bool.and_true, Bool.false_and, Bool.and_false, Bool.true_or, Bool.false_or, Bool.or_false, Bool.or_true, beq_self_eq_true, not_true_eq_false, not_false_eq_true, decide_eq_true_eq, fldC1, ofC'1, par2_2, par3_3, w_par2E, w_par3E, w_slD, w_slF, w_eSlice, w_eNoP, w_eP, w_intO, w_gT21, w_zpLLT, w_truO1, w_binO, w_ninO, w_eCM, w_eqLL, w_neLL, w_eqTT, w_neTT, lcY_nil, lcY_cons, w_all2, at2_0, at2_1, at3_0, at3_1, at3_2, at4_0, at4_1, at4_2, at4_3, itm_some, ixLE, ixFE, ixTE, ixO0, setO0, put_some, ix2_0, ix2_1, ix4_0, ix4_1, ix4_2, ix4_3, false_and, and_false, implies_true, w_eClr, w_slAL, w_slAF, w_seqG, w_lenG, w_enAG, w_tupleG, ixGE, isi_lt_G, w_nisN, w_binI, w_eApp, w_eMakeF, isLO_b, ix_b, augIE, w_eMv, w_one, okTg_self, at_behind, set_behind, Nat.reduceAdd, Int.reduceLT, Int.reduceLE, Int.reduceToNat, Nat.reduceLT, Nat.reduceLeDiff, Nat.reduceEqDiff, Int.reduceAbs, Int.reduceAdd, Int.reduceEq, Int.reduceNeg, Int.reduceSub, Int.reduceMul, Nat.reduceSub, Int.cast_ofNat_Int, Int.natCast_zero, Int.natCast_one, mapR_at hi, h1]
    simp only [unsetAll, belowE, List.set_cons_succ, List.set_cons_zero, List.all_cons, List.all_nil, belowO_some, belowO_none, belowD_G, belowD, belowDs, belowFs, belowC, belowDs_mapR, belowDs_map', belowDs_app', Bool.and_true, Bool.and_self, Bool.true_and, all_true', List.length_nil, List.length_cons, List.length_append, Nat.reduceAdd, Nat.reduceLT, decide_true, Nat.zero_lt_succ, Nat.lt_add_one, and_true, true_and]
  · simp only [w_bind, w_pure, w_var, w_c, w_op2, w_nil, w_cons, w_tup, w_lst, w_newL, w_sub, w_add, w_mod, w_divE, w_powE, w_mulE, w_cmp, w_bD, w_eB, w_eTru, w_truB, w_ch, w_tand, w_tor, w_tnot, w_and, w_or, w_not, DL.w_next, w_ret, w_sif, w_expr, w_gN, w_asg, w_eCall, w_seq, goOn_nx, goOn_rt, w_lc, w_lcN, w_iR1, w_iR2, w_iSq, w_seqL, w_seqT, w_lenT, w_lenL, w_lenF, w_max, w_min, w_gSub, w_for, w_isi, w_if, w_tupleL, w_tupleT, w_listL, w_listT, w_listNT, w_listNL, w_neg, w_negI, w_eListR1, w_iZpA, w_iZp3A, w_iEnA, w_zpTT, w_zpTL, w_zpLT, w_zpLL, w_enAL, w_enAT, w_isN, w_isT, w_nisT, w_isB, w_nisB, w_isI, w_nisI, w_isL, w_nisL, w_gT2, w_gT3, w_intB, w_intI, w_eMake, w_fld1, w_prop1, w_meth1, w_sub1, w_or2a1, w_own, w_inO, w_eIf, w_eqI, w_neI, w_eqB, w_neB, isi_int_int, isi_int_bl, isi_int_non, isi_int_str, isi_int_lst, isi_int_tup, isi_int_dct, isi_bool_int, isi_bool_bl, isi_bool_non, isi_bool_str, isi_bool_lst, isi_bool_tup, isi_bool_dct, isi_str_int, isi_str_bl, isi_str_non, isi_str_str, isi_str_lst, isi_str_tup, isi_str_dct, isi_list_int, isi_list_bl, isi_list_non, isi_list_str, isi_list_lst, isi_list_tup, isi_list_dct, isi_tuple_int, isi_tuple_bl, isi_tuple_non, isi_tuple_str, isi_tuple_lst, isi_tuple_tup, isi_tuple_dct, isi_dict_int, isi_dict_bl, isi_dict_non, isi_dict_str, isi_dict_lst, isi_dict_tup, isi_dict_dct, isi_lt_int, isi_o_int, isi_lt_bl, isi_o_bl, isi_lt_non, isi_o_non, isi_lt_str, isi_o_str, isi_lt_lst, isi_o_lst, isi_lt_tup, isi_o_tup, isi_lt_dct, isi_o_dct, isi_own, mapR_len, rngD_length, enumD_mapR, zip_mapR, zip3_mapR, rng0, rngA, List.length_map, startD, wipeD, List.map_cons, List.map_nil, List.length_cons, List.length_nil, List.replicate, List.cons_append, List.nil_append, List.append_nil, List.getElem?_cons_zero, List.getElem?_cons_succ, List.set_cons_succ, List.set_cons_zero, Bool.not_true, Bool.not_false, if_true, if_false, Bool.false_eq_true, decide_true, decide_false, true_and, and_true, and_self, and_imp, Int.zero_add, le2, le3, le4, le1, le0, Nat.sub_zero, Bool.true_and, Bool.and_true, Bool.false_and, Bool.and_false, Bool.true_or, Bool.false_or, Bool.or_false, Bool.or_true, beq_self_eq_true, not_true_eq_false, not_false_eq_true, decide_eq_true_eq, fldC1, ofC'1, par2_2, par3_3, w_par2E, w_par3E, w_slD, w_slF, w_eSlice, w_eNoP, w_eP, w_intO, w_gT21, w_zpLLT, w_truO1, w_binO, w_ninO, w_eCM, w_eqLL, w_neLL, w_eqTT, w_neTT, lcY_nil, lcY_cons, w_all2, at2_0, at2_1, at3_0, at3_1, at3_2, at4_0, at4_1, at4_2, at4_3, itm_some, ixLE, ixFE, ixTE, ixO0, setO0, put_some, ix2_0, ix2_1, ix4_0, ix4_1, ix4_2, ix4_3, false_and, and_false, implies_true, w_eClr, w_slAL, w_slAF, w_seqG, w_lenG, w_enAG, w_tupleG, ixGE, isi_lt_G, w_nisN, w_binI, w_eApp, w_eMakeF, isLO_b, ix_b, augIE, w_eMv, w_one, okTg_self, at_behind, set_behind, Nat.reduceAdd, Int.reduceLT, Int.reduceLE, Int.reduceToNat, Nat.reduceLT, Nat.reduceLeDiff, Nat.reduceEqDiff, Int.reduceAbs, Int.reduceAdd, Int.reduceEq, Int.reduceNeg, Int.reduceSub, Int.reduceMul, Nat.reduceSub, Int.cast_ofNat_Int, Int.natCast_zero, Int.natCast_one, hl]
    rw [lcE (f := fun i => .int (c i - c' i)) fun i hi => by simp only [w_bind, w_pure, w_var, w_c, w_op2, w_nil, w_cons, w_tup, w_lst, w_newL, w_sub, w_add, w_mod, w_divE, w_powE, w_mulE, w_cmp, w_bD, w_eB, w_eTru, w_truB, w_ch, w_tand, w_tor, w_tnot, w_and, w_or, w_not, DL.w_next, w_ret, w_sif, w_expr, w_gN, w_asg, w_eCall, w_seq, goOn_nx, goOn_rt, w_lc, w_lcN, w_iR1, w_iR2, w_iSq, w_seqL, w_seqT, w_lenT, w_lenL, w_lenF, w_max, w_min, w_gSub, w_for, w_isi, w_if, w_tupleL, w_tupleT, w_listL, w_listT, w_listNT, w_listNL, w_neg, w_negI, w_eListR1, w_iZpA, w_iZp3A, w_iEnA, w_zpTT, w_zpTL, w_zpLT, w_zpLL, w_enAL, w_enAT, w_isN, w_isT, w_nisT, w_isB, w_nisB, w_isI, w_nisI, w_isL, w_nisL, w_gT2, w_gT3, w_intB, w_intI, w_eMake, w_fld1, w_prop1, w_meth1, w_sub1, w_or2a1, w_own, w_inO, w_eIf, w_eqI, w_neI, w_eqB, w_neB, isi_int_int, isi_int_bl, isi_int_non, isi_int_str, isi_int_lst, isi_int_tup, isi_int_dct, isi_bool_int, isi_bool_bl, isi_bool_non, isi_bool_str, isi_bool_lst, isi_bool_tup, isi_bool_dct, isi_str_int, isi_str_bl, isi_str_non, isi_str_str, isi_str_lst, isi_str_tup, isi_str_dct, isi_list_int, isi_list_bl, isi_list_non, isi_list_str, isi_list_lst, isi_list_tup, isi_list_dct, isi_tuple_int, isi_tuple_bl, isi_tuple_non, isi_tuple_str, isi_tuple_lst, isi_tuple_tup, isi_tuple_dct, isi_dict_int, isi_dict_bl, isi_dict_non, isi_dict_str, isi_dict_lst, isi_dict_tup, isi_dict_dct, isi_lt_int, isi_o_int, isi_lt_bl, isi_o_bl, isi_lt_non, isi_o_non, isi_lt_str, isi_o_str, isi_lt_lst, isi_o_lst, isi_lt_tup, isi_o_tup, isi_lt_dct, isi_o_dct, isi_own, mapR_len, rngD_length, enumD_mapR, zip_mapR, zip3_mapR, rng0, rngA, List.length_map, startD, wipeD, List.map_cons, List.map_nil, List.length_cons, List.length_nil, List.replicate, List.cons_append, List.nil_append, List.append_nil, List.getElem?_cons_zero, List.getElem?_cons_succ, List.set_cons_succ, List.set_cons_zero, Bool.not_true, Bool.not_false, if_true, if_false, Bool.false_eq_true, decide_true, decide_false, true_and, and_true, and_self, and_imp, Int.zero_add, le2, le3, le4, le1, le0, Nat.sub_zero, Bool.true_and, Bool.and_true, Bool.false_and, Bool.and_false, Bool.true_or, Bool.false_or, Bool.or_false, Bool.or_true, beq_self_eq_true, not_true_eq_false, not_false_eq_true, decide_eq_true_eq, fldC1, ofC'1, par2_2, par3_3, w_par2E, w_par3E, w_slD, w_slF, w_eSlice, w_eNoP, w_eP, w_intO, w_gT21, w_zpLLT, w_truO1, w_binO, w_ninO, w_eCM, w_eqLL, w_neLL, w_eqTT, w_neTT, lcY_nil, lcY_cons, w_all2, at2_0, at2_1, at3_0, at3_1, at3_2, at4_0, at4_1, at4_2, at4_3, itm_some, ixLE, ixFE, ixTE, ixO0, setO0, put_some, ix2_0, ix2_1, ix4_0, ix4_1, ix4_2, ix4_3, false_and, and_false, implies_true, w_eClr, w_slAL, w_slAF, w_seqG, w_lenG, w_enAG, w_tupleG, ixGE, isi_lt_G, w_nisN, w_binI, w_eApp, w_eMakeF, isLO_b, ix_b, augIE, w_eMv, w_one, okTg_self, at_behind, set_behind, Nat.reduceAdd, Int.reduceLT, Int.reduceLE, Int.reduceToNat, Nat.reduceLT, Nat.reduceLeDiff, Nat.reduceEqDiff, Int.reduceAbs, Int.reduceAdd, Int.reduceEq, Int.reduceNeg, Int.reduceSub, Int.reduceMul, Nat.reduceSub, Int.cast_ofNat_Int, Int.natCast_zero, Int.natCast_one]]
    simp only [w_bind, w_pure, w_var, w_c, w_op2, w_nil, w_cons, w_tup, w_lst, w_newL, w_sub, w_add, w_mod, w_divE, w_powE, w_mulE, w_cmp, w_bD, w_eB, w_eTru, w_truB, w_ch, w_tand, w_tor, w_tnot, w_and, w_or, w_not, DL.w_next, w_ret, w_sif, w_expr, w_gN, w_asg, w_eCall, w_seq, goOn_nx, goOn_rt, w_lc, w_lcN, w_iR1, w_iR2, w_iSq, w_seqL, w_seqT, w_lenT, w_lenL, w_lenF, w_max, w_min, w_gSub, w_for, w_isi, w_if, w_tupleL, w_tupleT, w_listL, w_listT, w_listNT, w_listNL, w_neg, w_negI, w_eListR1, w_iZpA, w_iZp3A, w_iEnA, w_zpTT, w_zpTL, w_zpLT, w_zpLL, w_enAL, w_enAT, w_isN, w_isT, w_nisT, w_isB, w_nisB, w_isI, w_nisI, w_isL, w_nisL, w_gT2, w_gT3, w_intB, w_intI, w_eMake, w_fld1, w_prop1, w_meth1, w_sub1, w_or2a1, w_own, w_inO, w_eIf, w_eqI, w_neI, w_eqB, w_neB, isi_int_int, isi_int_bl, isi_int_non, isi_int_str, isi_int_lst, isi_int_tup, isi_int_dct, isi_bool_int, isi_bool_bl, isi_bool_non, isi_bool_str, isi_bool_lst, isi_bool_tup, isi_bool_dct, isi_str_int, isi_str_bl, isi_str_non, isi_str_str, isi_str_lst, isi_str_tup, isi_str_dct, isi_list_int, isi_list_bl, isi_list_non, isi_list_str, isi_list_lst, isi_list_tup, isi_list_dct, isi_tuple_int, isi_tuple_bl, isi_tuple_non, isi_tuple_str, isi_tuple_lst, isi_tuple_tup, isi_tuple_dct, isi_dict_int, isi_dict_bl, isi_dict_non, isi_dict_str, isi_dict_lst, isi_dict_tup, isi_dict_dct, isi_lt_int, isi_o_int, isi_lt_bl, isi_o_bl, isi_lt_non, isi_o_non, isi_lt_str, isi_o_str, isi_lt_lst, isi_o_lst, isi_lt_tup, isi_o_tup, isi_lt_dct, isi_o_dct, isi_own, mapR_len, rngD_length, enumD_mapR, zip_mapR, zip3_mapR, rng0, rngA, List.length_map, startD, wipeD, List.map_cons, List.map_nil, List.length_cons, List.length_nil, List.replicate, List.cons_append, List.nil_append, List.append_nil, List.getElem?_cons_zero, List.getElem?_cons_succ, List.set_cons_succ, List.set_cons_zero, Bool.not_true, Bool.not_false, if_true, if_false, Bool.false_eq_true, decide_true, decide_false, true_and, and_true, and_self, and_imp, Int.zero_add, le2, le3, le4, le1, le0, Nat.sub_zero, Bool.true_and, Bool.and_true, Bool.false_and, Bool.and_false, Bool.true_or, Bool.false_or, Bool.or_false, Bool.or_true, beq_self_eq_true, not_true_eq_false, not_false_eq_true, decide_eq_true_eq, fldC1, ofC'1, par2_2, par3_3, w_par2E, w_par3E, w_slD, w_slF, w_eSlice, w_eNoP, w_eP, w_intO, w_gT21, w_zpLLT, w_truO1, w_binO, w_ninO, w_eCM, w_eqLL, w_neLL, w_eqTT, w_neTT, lcY_nil, lcY_cons, w_all2, at2_0, at2_1, at3_0, at3_1, at3_2, at4_0, at4_1, at4_2, at4_3, itm_some, ixLE, ixFE, ixTE, ixO0, setO0, put_some, ix2_0, ix2_1, ix4_0, ix4_1, ix4_2, ix4_3, false_and, and_false, implies_true, w_eClr, w_slAL, w_slAF, w_seqG, w_lenG, w_enAG, w_tupleG, ixGE, isi_lt_G, w_nisN, w_binI, w_eApp, w_eMakeF, isLO_b, ix_b, augIE, w_eMv, w_one, okTg_self, at_behind, set_behind, Nat.reduceAdd, Int.reduceLT, Int.reduceLE, Int.reduceToNat, Nat.reduceLT, Nat.reduceLeDiff, Nat.reduceEqDiff, Int.reduceAbs, Int.reduceAdd, Int.reduceEq, Int.reduceNeg, Int.reduceSub, Int.reduceMul, Nat.reduceSub, Int.cast_ofNat_Int, Int.natCast_zero, Int.natCast_one, jar_make (c := fun i => c i - c' i) hn hn1 fun i hi => by have := hc i hi; omega]
    exact below_jar)
/-! ### lists of beans -/
def cnt (l : List Nat) : Nat → Int := fun i => (l.count i : Nat)
theorem cnt_snoc {l : List Nat} {x i : Nat} : cnt (l ++ [x]) i = cnt l i + if i = x then 1 else 0 := by
  unfold cnt
  rw [List.count_append, List.count_singleton]
  by_cases h : i = x
  · subst h; simp
  · rw [if_neg h, if_neg (by simpa using fun z => h z.symm)]; simp
theorem cnt_nonneg {l : List Nat} {i : Nat} : 0 ≤ cnt l i := Int.natCast_nonneg _
theorem need_cols {n : Nat} {l : List Nat} {d : D} (hd : d = lstN l ∨ d = tupN l) (hl : ∀ x ∈ l, x < n) {P : D → Sto → Prop} : W (g_need_colours A [d, .int (n : Nat)]) st P = P .non st := callE rfl (by
  unfold b_need_colours
  have step : ∀ {Q : Fl → Sto → Prop}, Q (.nx [some d, some (.int (n : Nat)), none]) st → W (forM (gN 2) (sScope [2] (sIf (tNotD (eTru (eCall (g_is_colour A) (eCons (eVar 2) (eCons (eVar 1) eNil))))) sNo sNext)) (l.map fun x => D.int (x : Nat)) [some d, some (.int (n : Nat)), none]) st Q := fun {Q} hQ => by
    refine forK (fun x hx => ?_) hQ
    obtain ⟨y, hy, rfl⟩ := List.mem_map.mp hx
    have h1 : (0 : Int) ≤ (y : Nat) ∧ ((y : Nat) : Int) < (n : Nat) := by have := hl y hy; omega
    simp only [w_bind, w_pure, w_var, w_c, w_op2, w_nil, w_cons, w_tup, w_lst, w_newL, w_sub, w_add, w_mod, w_divE, w_powE, w_mulE, w_cmp, w_bD, w_eB, w_eTru, w_truB, w_ch, w_tand, w_tor, w_tnot, w_and, w_or, w_not, DL.w_next, w_ret, w_sif, w_expr, w_gN, w_asg, w_eCall, w_seq, goOn_nx, goOn_rt, w_lc, w_lcN, w_iR1, w_iR2, w_iSq, w_seqL, w_seqT, w_lenT, w_lenL, w_lenF, w_max, w_min, w_gSub, w_for, w_isi, w_if, w_tupleL, w_tupleT, w_listL, w_listT, w_listNT, w_listNL, w_neg, w_negI, w_eListR1, w_iZpA, w_iZp3A, w_iEnA, w_zpTT, w_zpTL, w_zpLT, w_zpLL, w_enAL, w_enAT, w_isN, w_isT, w_nisT, w_isB, w_nisB, w_isI, w_nisI, w_isL, w_nisL, w_gT2, w_gT3, w_intB, w_intI, w_eMake, w_fld1, w_prop1, w_meth1, w_sub1, w_or2a1, w_own, w_inO, w_eIf, w_eqI, w_neI, w_eqB, w_neB, isi_int_int, isi_int_bl, isi_int_non, isi_int_str, isi_int_lst, isi_int_tup, isi_int_dct, isi_bool_int, isi_bool_bl, isi_bool_non, isi_bool_str, isi_bool_lst, isi_bool_tup, isi_bool_dct, isi_str_int, isi_str_bl, isi_str_non, isi_str_str, isi_str_lst, isi_str_tup, isi_str_dct, isi_list_int, isi_list_bl, isi_list_non, isi_list_str, isi_list_lst, isi_list_tup, isi_list_dct, isi_tuple_int, isi_tuple_bl, isi_tuple_non, isi_tuple_str, isi_tuple_lst, isi_tuple_tup, isi_tuple_dct, isi_dict_int, isi_dict_bl, isi_dict_non, isi_dict_str, isi_dict_lst, isi_dict_tup, isi_dict_dct, isi_lt_int, isi_o_int, isi_lt_bl, isi_o_bl, isi_lt_non, isi_o_non, isi_lt_str, isi_o_str, isi_lt_lst, isi_o_lst, isi_lt_tup, isi_o_tup, isi_lt_dct, isi_o_dct, isi_own, mapR_len, rngD_length, enumD_mapR, zip_mapR, zip3_mapR, rng0, rngA, List.length_map, startD, wipeD, List.map_cons, List.map_nil, List.length_cons, List.length_nil, List.replicate, List.cons_append, List.nil_append, List.append_nil, List.getElem?_cons_zero, List.getElem?_cons_succ, List.set_cons_succ, List.set_cons_zero, Bool.not_true, Bool.not_false, if_true, if_false, Bool.false_eq_true, decide_true, decide_false, true_and, and_true, and_self, and_imp, Int.zero_add, le2, le3, le4, le1, le0, Nat.sub_zero, Bool.true_and, Bool.and_true, Bool.false_and, Bool.and_false, Bool.true_or, Bool.false_or, Bool.or_false, Bool.or_true, beq_self_eq_true, not_true_eq_false, not_false_eq_true, decide_eq_true_eq, fldC1, ofC'1, par2_2, par3_3, w_par2E, w_par3E, w_slD, w_slF, w_eSlice, w_eNoP, w_eP, w_intO, w_gT21, w_zpLLT, w_truO1, w_binO, w_ninO, w_eCM, w_eqLL, w_neLL, w_eqTT, w_neTT, lcY_nil, lcY_cons, w_all2, at2_0, at2_1, at3_0, at3_1, at3_2, at4_0, at4_1, at4_2, at4_3, itm_some, ixLE, ixFE, ixTE, ixO0, setO0, put_some, ix2_0, ix2_1, ix4_0, ix4_1, ix4_2, ix4_3, false_and, and_false, implies_true, w_eClr, w_slAL, w_slAF, w_seqG, w_lenG, w_enAG, w_tupleG, ixGE, isi_lt_G, w_nisN, w_binI, w_eApp, w_eMakeF, isLO_b, ix_b, augIE, w_eMv, w_one, okTg_self, at_behind, set_behind, Nat.reduceAdd, Int.reduceLT, Int.reduceLE, Int.reduceToNat, Nat.reduceLT, Nat.reduceLeDiff, Nat.reduceEqDiff, Int.reduceAbs, Int.reduceAdd, Int.reduceEq, Int.reduceNeg, Int.reduceSub, Int.reduceMul, Nat.reduceSub, Int.cast_ofNat_Int, Int.natCast_zero, Int.natCast_one]
    refine w_scopeP ?_
    simp only [w_bind, w_pure, w_var, w_c, w_op2, w_nil, w_cons, w_tup, w_lst, w_newL, w_sub, w_add, w_mod, w_divE, w_powE, w_mulE, w_cmp, w_bD, w_eB, w_eTru, w_truB, w_ch, w_tand, w_tor, w_tnot, w_and, w_or, w_not, DL.w_next, w_ret, w_sif, w_expr, w_gN, w_asg, w_eCall, w_seq, goOn_nx, goOn_rt, w_lc, w_lcN, w_iR1, w_iR2, w_iSq, w_seqL, w_seqT, w_lenT, w_lenL, w_lenF, w_max, w_min, w_gSub, w_for, w_isi, w_if, w_tupleL, w_tupleT, w_listL, w_listT, w_listNT, w_listNL, w_neg, w_negI, w_eListR1, w_iZpA, w_iZp3A, w_iEnA, w_zpTT, w_zpTL, w_zpLT, w_zpLL, w_enAL, w_enAT, w_isN, w_isT, w_nisT, w_isB, w_nisB, w_isI, w_nisI, w_isL, w_nisL, w_gT2, w_gT3, w_intB, w_intI, w_eMake, w_fld1, w_prop1, w_meth1, w_sub1, w_or2a1, w_own, w_inO, w_eIf, w_eqI, w_neI, w_eqB, w_neB, isi_int_int, isi_int_bl, isi_int_non, isi_int_str, isi_int_lst, isi_int_tup, isi_int_dct, isi_bool_int, isi_bool_bl, isi_bool_non, isi_bool_str, isi_bool_lst, isi_bool_tup, isi_bool_dct, isi_str_int, isi_str_bl, isi_str_non, isi_str_str, isi_str_lst, isi_str_tup, isi_str_dct, isi_list_int, isi_list_bl, isi_list_non, isi_list_str, isi_list_lst, isi_list_tup, isi_list_dct, isi_tuple_int, isi_tuple_bl, isi_tuple_non, isi_tuple_str, isi_tuple_lst, isi_tuple_tup, isi_tuple_dct, isi_dict_int, isi_dict_bl, isi_dict_non, isi_dict_str, isi_dict_lst, isi_dict_tup, isi_dict_dct, isi_lt_int, isi_o_int, isi_lt_bl, isi_o_bl, isi_lt_non, isi_o_non, isi_lt_str, isi_o_str, isi_lt_lst, isi_o_lst, isi_lt_tup, isi_o_tup, isi_lt_dct, isi_o_dct, isi_own, mapR_len, rngD_length, enumD_mapR, zip_mapR, zip3_mapR, rng0, rngA, List.length_map, startD, wipeD, List.map_cons, List.map_nil, List.length_cons, List.length_nil, List.replicate, List.cons_append, List.nil_append, List.append_nil, List.getElem?_cons_zero, List.getElem?_cons_succ, List.set_cons_succ, List.set_cons_zero, Bool.not_true, Bool.not_false, if_true, if_false, Bool.false_eq_true, decide_true, decide_false, true_and, and_true, and_self, and_imp, Int.zero_add, le2, le3, le4, le1, le0, Nat.sub_zero, Bool.true_and, Bool.and_true, Bool.false_and, Bool.and_false, Bool.true_or, Bool.false_or, Bool.or_false, Bool.or_true, beq_self_eq_true, not_true_eq_false, not_false_eq_true, decide_eq_true_eq, fldC1, ofC'1, par2_2, par3_3, w_par2E, w_par3E, w_slD, w_slF, w_eSlice, w_eNoP, w_eP, w_intO, w_gT21, w_zpLLT, w_truO1, w_binO, w_ninO, w_eCM, w_eqLL, w_neLL, w_eqTT, w_neTT, lcY_nil, lcY_cons, w_all2, at2_0, at2_1, at3_0, at3_1, at3_2, at4_0, at4_1, at4_2, at4_3, itm_some, ixLE, ixFE, ixTE, ixO0, setO0, put_some, ix2_0, ix2_1, ix4_0, ix4_1, ix4_2, ix4_3, false_and, and_false, implies_true, w_eClr, w_slAL, w_slAF, w_seqG, w_lenG, w_enAG, w_tupleG, ixGE, isi_lt_G, w_nisN, w_binI, w_eApp, w_eMakeF, isLO_b, ix_b, augIE, w_eMv, w_one, okTg_self, at_behind, set_behind, Nat.reduceAdd, Int.reduceLT, Int.reduceLE, Int.reduceToNat, Nat.reduceLT, Nat.reduceLeDiff, Nat.reduceEqDiff, Int.reduceAbs, Int.reduceAdd, Int.reduceEq, Int.reduceNeg, Int.reduceSub, Int.reduceMul, Nat.reduceSub, Int.cast_ofNat_Int, Int.natCast_zero, Int.natCast_one, is_col_i, h1]
    rcases hd with rfl | rfl <;> simp only [unsetAll, belowE, List.set_cons_succ, List.set_cons_zero, List.all_cons, List.all_nil, belowO_some, belowO_none, belowD_G, belowD, belowDs, belowFs, belowC, belowDs_mapR, belowDs_map', belowDs_app', Bool.and_true, Bool.and_self, Bool.true_and, all_true', List.length_nil, List.length_cons, List.length_append, Nat.reduceAdd, Nat.reduceLT, decide_true, Nat.zero_lt_succ, Nat.lt_add_one, and_true, true_and]
  rcases hd with rfl | rfl
  · simp only [w_bind, w_pure, w_var, w_c, w_op2, w_nil, w_cons, w_tup, w_lst, w_newL, w_sub, w_add, w_mod, w_divE, w_powE, w_mulE, w_cmp, w_bD, w_eB, w_eTru, w_truB, w_ch, w_tand, w_tor, w_tnot, w_and, w_or, w_not, DL.w_next, w_ret, w_sif, w_expr, w_gN, w_asg, w_eCall, w_seq, goOn_nx, goOn_rt, w_lc, w_lcN, w_iR1, w_iR2, w_iSq, w_seqL, w_seqT, w_lenT, w_lenL, w_lenF, w_max, w_min, w_gSub, w_for, w_isi, w_if, w_tupleL, w_tupleT, w_listL, w_listT, w_listNT, w_listNL, w_neg, w_negI, w_eListR1, w_iZpA, w_iZp3A, w_iEnA, w_zpTT, w_zpTL, w_zpLT, w_zpLL, w_enAL, w_enAT, w_isN, w_isT, w_nisT, w_isB, w_nisB, w_isI, w_nisI, w_isL, w_nisL, w_gT2, w_gT3, w_intB, w_intI, w_eMake, w_fld1, w_prop1, w_meth1, w_sub1, w_or2a1, w_own, w_inO, w_eIf, w_eqI, w_neI, w_eqB, w_neB, isi_int_int, isi_int_bl, isi_int_non, isi_int_str, isi_int_lst, isi_int_tup, isi_int_dct, isi_bool_int, isi_bool_bl, isi_bool_non, isi_bool_str, isi_bool_lst, isi_bool_tup, isi_bool_dct, isi_str_int, isi_str_bl, isi_str_non, isi_str_str, isi_str_lst, isi_str_tup, isi_str_dct, isi_list_int, isi_list_bl, isi_list_non, isi_list_str, isi_list_lst, isi_list_tup, isi_list_dct, isi_tuple_int, isi_tuple_bl, isi_tuple_non, isi_tuple_str, isi_tuple_lst, isi_tuple_tup, isi_tuple_dct, isi_dict_int, isi_dict_bl, isi_dict_non, isi_dict_str, isi_dict_lst, isi_dict_tup, isi_dict_dct, isi_lt_int, isi_o_int, isi_lt_bl, isi_o_bl, isi_lt_non, isi_o_non, isi_lt_str, isi_o_str, isi_lt_lst, isi_o_lst, isi_lt_tup, isi_o_tup, isi_lt_dct, isi_o_dct, isi_own, mapR_len, rngD_length, enumD_mapR, zip_mapR, zip3_mapR, rng0, rngA, List.length_map, startD, wipeD, List.map_cons, List.map_nil, List.length_cons, List.length_nil, List.replicate, List.cons_append, List.nil_append, List.append_nil, List.getElem?_cons_zero, List.getElem?_cons_succ, List.set_cons_succ, List.set_cons_zero, Bool.not_true, Bool.not_false, if_true, if_false, Bool.false_eq_true, decide_true, decide_false, true_and, and_true, and_self, and_imp, Int.zero_add, le2, le3, le4, le1, le0, Nat.sub_zero, Bool.true_and, Bool.and_true, Bool.false_and, Bool.and_false, Bool.true_or, Bool.false_or, Bool.or_false, Bool.or_true, beq_self_eq_true, not_true_eq_false, not_false_eq_true, decide_eq_true_eq, fldC1, ofC'1, par2_2, par3_3, w_par2E, w_par3E, w_slD, w_slF, w_eSlice, w_eNoP, w_eP, w_intO, w_gT21, w_zpLLT, w_truO1, w_binO, w_ninO, w_eCM, w_eqLL, w_neLL, w_eqTT, w_neTT, lcY_nil, lcY_cons, w_all2, at2_0, at2_1, at3_0, at3_1, at3_2, at4_0, at4_1, at4_2, at4_3, itm_some, ixLE, ixFE, ixTE, ixO0, setO0, put_some, ix2_0, ix2_1, ix4_0, ix4_1, ix4_2, ix4_3, false_and, and_false, implies_true, w_eClr, w_slAL, w_slAF, w_seqG, w_lenG, w_enAG, w_tupleG, ixGE, isi_lt_G, w_nisN, w_binI, w_eApp, w_eMakeF, isLO_b, ix_b, augIE, w_eMv, w_one, okTg_self, at_behind, set_behind, Nat.reduceAdd, Int.reduceLT, Int.reduceLE, Int.reduceToNat, Nat.reduceLT, Nat.reduceLeDiff, Nat.reduceEqDiff, Int.reduceAbs, Int.reduceAdd, Int.reduceEq, Int.reduceNeg, Int.reduceSub, Int.reduceMul, Nat.reduceSub, Int.cast_ofNat_Int, Int.natCast_zero, Int.natCast_one]
    exact step ⟨rfl, trivial⟩
  · simp only [w_bind, w_pure, w_var, w_c, w_op2, w_nil, w_cons, w_tup, w_lst, w_newL, w_sub, w_add, w_mod, w_divE, w_powE, w_mulE, w_cmp, w_bD, w_eB, w_eTru, w_truB, w_ch, w_tand, w_tor, w_tnot, w_and, w_or, w_not, DL.w_next, w_ret, w_sif, w_expr, w_gN, w_asg, w_eCall, w_seq, goOn_nx, goOn_rt, w_lc, w_lcN, w_iR1, w_iR2, w_iSq, w_seqL, w_seqT, w_lenT, w_lenL, w_lenF, w_max, w_min, w_gSub, w_for, w_isi, w_if, w_tupleL, w_tupleT, w_listL, w_listT, w_listNT, w_listNL, w_neg, w_negI, w_eListR1, w_iZpA, w_iZp3A, w_iEnA, w_zpTT, w_zpTL, w_zpLT, w_zpLL, w_enAL, w_enAT, w_isN, w_isT, w_nisT, w_isB, w_nisB, w_isI, w_nisI, w_isL, w_nisL, w_gT2, w_gT3, w_intB, w_intI, w_eMake, w_fld1, w_prop1, w_meth1, w_sub1, w_or2a1, w_own, w_inO, w_eIf, w_eqI, w_neI, w_eqB, w_neB, isi_int_int, isi_int_bl, isi_int_non, isi_int_str, isi_int_lst, isi_int_tup, isi_int_dct, isi_bool_int, isi_bool_bl, isi_bool_non, isi_bool_str, isi_bool_lst, isi_bool_tup, isi_bool_dct, isi_str_int, isi_str_bl, isi_str_non, isi_str_str, isi_str_lst, isi_str_tup, isi_str_dct, isi_list_int, isi_list_bl, isi_list_non, isi_list_str, isi_list_lst, isi_list_tup, isi_list_dct, isi_tuple_int, isi_tuple_bl, isi_tuple_non, isi_tuple_str, isi_tuple_lst, isi_tuple_tup, isi_tuple_dct, isi_dict_int, isi_dict_bl, isi_dict_non, isi_dict_str, isi_dict_lst, isi_dict_tup, isi_dict_dct, isi_lt_int, isi_o_int, isi_lt_bl, isi_o_bl, isi_lt_non, isi_o_non, isi_lt_str, isi_o_str, isi_lt_lst, isi_o_lst, isi_lt_tup, isi_o_tup, isi_lt_dct, isi_o_dct, isi_own, mapR_len, rngD_length, enumD_mapR, zip_mapR, zip3_mapR, rng0, rngA, List.length_map, startD, wipeD, List.map_cons, List.map_nil, List.length_cons, List.length_nil, List.replicate, List.cons_append, List.nil_append, List.append_nil, List.getElem?_cons_zero, List.getElem?_cons_succ, List.set_cons_succ, List.set_cons_zero, Bool.not_true, Bool.not_false, if_true, if_false, Bool.false_eq_true, decide_true, decide_false, true_and, and_true, and_self, and_imp, Int.zero_add, le2, le3, le4, le1, le0, Nat.sub_zero, Bool.true_and, Bool.and_true, Bool.false_and, Bool.and_false, Bool.true_or, Bool.false_or, Bool.or_false, Bool.or_true, beq_self_eq_true, not_true_eq_false, not_false_eq_true, decide_eq_true_eq, fldC1, ofC'1, par2_2, par3_3, w_par2E, w_par3E, w_slD, w_slF, w_eSlice, w_eNoP, w_eP, w_intO, w_gT21, w_zpLLT, w_truO1, w_binO, w_ninO, w_eCM, w_eqLL, w_neLL, w_eqTT, w_neTT, lcY_nil, lcY_cons, w_all2, at2_0, at2_1, at3_0, at3_1, at3_2, at4_0, at4_1, at4_2, at4_3, itm_some, ixLE, ixFE, ixTE, ixO0, setO0, put_some, ix2_0, ix2_1, ix4_0, ix4_1, ix4_2, ix4_3, false_and, and_false, implies_true, w_eClr, w_slAL, w_slAF, w_seqG, w_lenG, w_enAG, w_tupleG, ixGE, isi_lt_G, w_nisN, w_binI, w_eApp, w_eMakeF, isLO_b, ix_b, augIE, w_eMv, w_one, okTg_self, at_behind, set_behind, Nat.reduceAdd, Int.reduceLT, Int.reduceLE, Int.reduceToNat, Nat.reduceLT, Nat.reduceLeDiff, Nat.reduceEqDiff, Int.reduceAbs, Int.reduceAdd, Int.reduceEq, Int.reduceNeg, Int.reduceSub, Int.reduceMul, Nat.reduceSub, Int.cast_ofNat_Int, Int.natCast_zero, Int.natCast_one]
    exact step ⟨rfl, trivial⟩)
theorem of_beans {n : Nat} {l : List Nat} {d : D} (hd : d = lstN l ∨ d = tupN l) (hn : n ≤ 8) (hn1 : 1 ≤ n) (hl : ∀ x ∈ l, x < n) {P : D → Sto → Prop} : W (g_Jar_of_beans A [.fn A.C_Jar, .int (n : Nat), d]) st P = P (jarD A n (cnt l)) st := by
  refine w_of (w_callM rfl ?_)
  unfold b_Jar_of_beans
  have h1 : (1 : Int) ≤ (n : Nat) := by omega
  have h8 : ((n : Nat) : Int) ≤ 8 := by omega
  have fin : ∀ (X : Sto) (j : D), TrOk st.length st (st ++ X) := fun X j => .app
  have loop : W (forM (gN 4) (sScope [4] (sAugadd (eVar 3) (eVar 4) (eC (.int 1)))) (l.map fun x => D.int (x : Nat)) [some (.fn A.C_Jar), some (.int (n : Nat)), some d, some (.obj st.length), none]) (st ++ [.lst (mapR n fun _ => .int 0)])
      (fun fl s => fl = .nx [some (.fn A.C_Jar), some (.int (n : Nat)), some d, some (.obj st.length), none] ∧ s = st ++ [.lst (mapR n fun i => .int (cnt l i))]) := by
    refine forL (fun pre δ s => δ = [some (.fn A.C_Jar), some (.int (n : Nat)), some d, some (.obj st.length), none] ∧ s = st ++ [.lst (mapR n fun i => .int (cnt pre i))]) (fun pre y post δ s e I => ?_) (fun δ s I => ?_) ⟨rfl, rfl⟩
    · obtain ⟨rfl, rfl⟩ := I
      have hy : y < n := hl y (by rw [e]; simp)
      have ixy : ixN n (y : Nat) = some y := by
        unfold ixN
        rw [if_pos (Int.natCast_nonneg y), if_pos (by omega), Int.toNat_natCast]
      simp only [w_bind, w_pure, w_var, w_c, w_op2, w_nil, w_cons, w_tup, w_lst, w_newL, w_sub, w_add, w_mod, w_divE, w_powE, w_mulE, w_cmp, w_bD, w_eB, w_eTru, w_truB, w_ch, w_tand, w_tor, w_tnot, w_and, w_or, w_not, DL.w_next, w_ret, w_sif, w_expr, w_gN, w_asg, w_eCall, w_seq, goOn_nx, goOn_rt, w_lc, w_lcN, w_iR1, w_iR2, w_iSq, w_seqL, w_seqT, w_lenT, w_lenL, w_lenF, w_max, w_min, w_gSub, w_for, w_isi, w_if, w_tupleL, w_tupleT, w_listL, w_listT, w_listNT, w_listNL, w_neg, w_negI, w_eListR1, w_iZpA, w_iZp3A, w_iEnA, w_zpTT, w_zpTL, w_zpLT, w_zpLL, w_enAL, w_enAT, w_isN, w_isT, w_nisT, w_isB, w_nisB, w_isI, w_nisI, w_isL, w_nisL, w_gT2, w_gT3, w_intB, w_intI, w_eMake, w_fld1, w_prop1, w_meth1, w_sub1, w_or2a1, w_own, w_inO, w_eIf, w_eqI, w_neI, w_eqB, w_neB, isi_int_int, isi_int_bl, isi_int_non, isi_int_str, isi_int_lst, isi_int_tup, isi_int_dct, isi_bool_int, isi_bool_bl, isi_bool_non, isi_bool_str, isi_bool_lst, isi_bool_tup, isi_bool_dct, isi_str_int, isi_str_bl, isi_str_non, isi_str_str, isi_str_lst, isi_str_tup, isi_str_dct, isi_list_int, isi_list_bl, isi_list_non, isi_list_str, isi_list_lst, isi_list_tup, isi_list_dct, isi_tuple_int, isi_tuple_bl, isi_tuple_non, isi_tuple_str, isi_tuple_lst, isi_tuple_tup, isi_tuple_dct, isi_dict_int, isi_dict_bl, isi_dict_non, isi_dict_str, isi_dict_lst, isi_dict_tup, isi_dict_dct, isi_lt_int, isi_o_int, isi_lt_bl, isi_o_bl, isi_lt_non, isi_o_non, isi_lt_str, isi_o_str, isi_lt_lst, isi_o_lst, isi_lt_tup, isi_o_tup, isi_lt_dct, isi_o_dct, isi_own, mapR_len, rngD_length, enumD_mapR, zip_mapR, zip3_mapR, rng0, rngA, List.length_map, startD, wipeD, List.map_cons, List.map_nil, List.length_cons, List.length_nil, List.replicate, List.cons_append, List.nil_append, List.append_nil, List.getElem?_cons_zero, List.getElem?_cons_succ, List.set_cons_succ, List.set_cons_zero, Bool.not_true, Bool.not_false, if_true, if_false, Bool.false_eq_true, decide_true, decide_false, true_and, and_true, and_self, and_imp, Int.zero_add, le2, le3, le4, le1, le0, Nat.sub_zero, Bool.true_and, Bool.and_true, Bool.false_and, Bool.and_false, Bool.true_or, Bool.false_or, Bool.or_false, Bool.or_true, beq_self_eq_true, not_true_eq_false, not_false_eq_true, decide_eq_true_eq, fldC1, ofC'1, par2_2, par3_3, w_par2E, w_par3E, w_slD, w_slF, w_eSlice, w_eNoP, w_eP, w_intO, w_gT21, w_zpLLT, w_truO1, w_binO, w_ninO, w_eCM, w_eqLL, w_neLL, w_eqTT, w_neTT, lcY_nil, lcY_cons, w_all2, at2_0, at2_1, at3_0, at3_1, at3_2, at4_0, at4_1, at4_2, at4_3, itm_some, ixLE, ixFE, ixTE, ixO0, setO0, put_some, ix2_0, ix2_1, ix4_0, ix4_1, ix4_2, ix4_3, false_and, and_false, implies_true, w_eClr, w_slAL, w_slAF, w_seqG, w_lenG, w_enAG, w_tupleG, ixGE, isi_lt_G, w_nisN, w_binI, w_eApp, w_eMakeF, isLO_b, ix_b, augIE, w_eMv, w_one, okTg_self, at_behind, set_behind, Nat.reduceAdd, Int.reduceLT, Int.reduceLE, Int.reduceToNat, Nat.reduceLT, Nat.reduceLeDiff, Nat.reduceEqDiff, Int.reduceAbs, Int.reduceAdd, Int.reduceEq, Int.reduceNeg, Int.reduceSub, Int.reduceMul, Nat.reduceSub, Int.cast_ofNat_Int, Int.natCast_zero, Int.natCast_one]
      refine w_scope (w_aug1 ?_)
      simp only [w_bind, w_pure, w_var, w_c, w_op2, w_nil, w_cons, w_tup, w_lst, w_newL, w_sub, w_add, w_mod, w_divE, w_powE, w_mulE, w_cmp, w_bD, w_eB, w_eTru, w_truB, w_ch, w_tand, w_tor, w_tnot, w_and, w_or, w_not, DL.w_next, w_ret, w_sif, w_expr, w_gN, w_asg, w_eCall, w_seq, goOn_nx, goOn_rt, w_lc, w_lcN, w_iR1, w_iR2, w_iSq, w_seqL, w_seqT, w_lenT, w_lenL, w_lenF, w_max, w_min, w_gSub, w_for, w_isi, w_if, w_tupleL, w_tupleT, w_listL, w_listT, w_listNT, w_listNL, w_neg, w_negI, w_eListR1, w_iZpA, w_iZp3A, w_iEnA, w_zpTT, w_zpTL, w_zpLT, w_zpLL, w_enAL, w_enAT, w_isN, w_isT, w_nisT, w_isB, w_nisB, w_isI, w_nisI, w_isL, w_nisL, w_gT2, w_gT3, w_intB, w_intI, w_eMake, w_fld1, w_prop1, w_meth1, w_sub1, w_or2a1, w_own, w_inO, w_eIf, w_eqI, w_neI, w_eqB, w_neB, isi_int_int, isi_int_bl, isi_int_non, isi_int_str, isi_int_lst, isi_int_tup, isi_int_dct, isi_bool_int, isi_bool_bl, isi_bool_non, isi_bool_str, isi_bool_lst, isi_bool_tup, isi_bool_dct, isi_str_int, isi_str_bl, isi_str_non, isi_str_str, isi_str_lst, isi_str_tup, isi_str_dct, isi_list_int, isi_list_bl, isi_list_non, isi_list_str, isi_list_lst, isi_list_tup, isi_list_dct, isi_tuple_int, isi_tuple_bl, isi_tuple_non, isi_tuple_str, isi_tuple_lst, isi_tuple_tup, isi_tuple_dct, isi_dict_int, isi_dict_bl, isi_dict_non, isi_dict_str, isi_dict_lst, isi_dict_tup, isi_dict_dct, isi_lt_int, isi_o_int, isi_lt_bl, isi_o_bl, isi_lt_non, isi_o_non, isi_lt_str, isi_o_str, isi_lt_lst, isi_o_lst, isi_lt_tup, isi_o_tup, isi_lt_dct, isi_o_dct, isi_own, mapR_len, rngD_length, enumD_mapR, zip_mapR, zip3_mapR, rng0, rngA, List.length_map, startD, wipeD, List.map_cons, List.map_nil, List.length_cons, List.length_nil, List.replicate, List.cons_append, List.nil_append, List.append_nil, List.getElem?_cons_zero, List.getElem?_cons_succ, List.set_cons_succ, List.set_cons_zero, Bool.not_true, Bool.not_false, if_true, if_false, Bool.false_eq_true, decide_true, decide_false, true_and, and_true, and_self, and_imp, Int.zero_add, le2, le3, le4, le1, le0, Nat.sub_zero, Bool.true_and, Bool.and_true, Bool.false_and, Bool.and_false, Bool.true_or, Bool.false_or, Bool.or_false, Bool.or_true, beq_self_eq_true, not_true_eq_false, not_false_eq_true, decide_eq_true_eq, fldC1, ofC'1, par2_2, par3_3, w_par2E, w_par3E, w_slD, w_slF, w_eSlice, w_eNoP, w_eP, w_intO, w_gT21, w_zpLLT, w_truO1, w_binO, w_ninO, w_eCM, w_eqLL, w_neLL, w_eqTT, w_neTT, lcY_nil, lcY_cons, w_all2, at2_0, at2_1, at3_0, at3_1, at3_2, at4_0, at4_1, at4_2, at4_3, itm_some, ixLE, ixFE, ixTE, ixO0, setO0, put_some, ix2_0, ix2_1, ix4_0, ix4_1, ix4_2, ix4_3, false_and, and_false, implies_true, w_eClr, w_slAL, w_slAF, w_seqG, w_lenG, w_enAG, w_tupleG, ixGE, isi_lt_G, w_nisN, w_binI, w_eApp, w_eMakeF, isLO_b, ix_b, augIE, w_eMv, w_one, okTg_self, at_behind, set_behind, Nat.reduceAdd, Int.reduceLT, Int.reduceLE, Int.reduceToNat, Nat.reduceLT, Nat.reduceLeDiff, Nat.reduceEqDiff, Int.reduceAbs, Int.reduceAdd, Int.reduceEq, Int.reduceNeg, Int.reduceSub, Int.reduceMul, Nat.reduceSub, Int.cast_ofNat_Int, Int.natCast_zero, Int.natCast_one, getLDE last_at, mapR_at hy, setOE last_at, ixy, mapR_set, last_set]
      have e2 : (mapR n fun i => if i = y then D.int (cnt pre y + 1) else .int (cnt pre i)) = mapR n fun i => .int (cnt (pre ++ [y]) i) := mapR_ext fun i _ => by
        rw [cnt_snoc]
        by_cases q : i = y
        · rw [if_pos q, if_pos q, q]
        · rw [if_neg q, if_neg q]; simp
      rw [e2]
      have b0 : belowC (st ++ [Cell.lst (mapR n fun i => .int (cnt pre i))]).length (.lst (mapR n fun i => .int (cnt (pre ++ [y]) i))) = true := by simp only [unsetAll, belowE, List.set_cons_succ, List.set_cons_zero, List.all_cons, List.all_nil, belowO_some, belowO_none, belowD_G, belowD, belowDs, belowFs, belowC, belowDs_mapR, belowDs_map', belowDs_app', Bool.and_true, Bool.and_self, Bool.true_and, all_true', List.length_nil, List.length_cons, List.length_append, Nat.reduceAdd, Nat.reduceLT, decide_true, Nat.zero_lt_succ, Nat.lt_add_one, and_true, true_and]
      have k2 := (TrOk.rfl' (st := st ++ [Cell.lst (mapR n fun i => .int (cnt pre i))])).setb (j := st.length) b0
      rw [last_set] at k2
      refine ⟨k2, ?_, rfl, List.take_of_length_le (by simp)⟩
      rcases hd with rfl | rfl <;> simp only [unsetAll, belowE, List.set_cons_succ, List.set_cons_zero, List.all_cons, List.all_nil, belowO_some, belowO_none, belowD_G, belowD, belowDs, belowFs, belowC, belowDs_mapR, belowDs_map', belowDs_app', Bool.and_true, Bool.and_self, Bool.true_and, all_true', List.length_nil, List.length_cons, List.length_append, Nat.reduceAdd, Nat.reduceLT, decide_true, Nat.zero_lt_succ, Nat.lt_add_one, and_true, true_and]
    · obtain ⟨rfl, rfl⟩ := I
      exact ⟨rfl, rfl⟩
  have last : ∀ fl s, (fl = .nx [some (.fn A.C_Jar), some (.int (n : Nat)), some d, some (.obj st.length), none] ∧ s = st ++ [.lst (mapR n fun i => .int (cnt l i))]) → goOn (sRet (eMakeL 0 A.C_Jar (g_Jar_uuinituu A) (eCons (eMv (eVar 3)) eNil))) (fun fl st1 => TrOk st.length st st1 ∧ Ret st.length st1 fl fun d => d = jarD A n (cnt l) ∧ st1.take st.length = st) fl s := fun fl s q => by
    obtain ⟨rfl, rfl⟩ := q
    simp only [w_bind, w_pure, w_var, w_c, w_op2, w_nil, w_cons, w_tup, w_lst, w_newL, w_sub, w_add, w_mod, w_divE, w_powE, w_mulE, w_cmp, w_bD, w_eB, w_eTru, w_truB, w_ch, w_tand, w_tor, w_tnot, w_and, w_or, w_not, DL.w_next, w_ret, w_sif, w_expr, w_gN, w_asg, w_eCall, w_seq, goOn_nx, goOn_rt, w_lc, w_lcN, w_iR1, w_iR2, w_iSq, w_seqL, w_seqT, w_lenT, w_lenL, w_lenF, w_max, w_min, w_gSub, w_for, w_isi, w_if, w_tupleL, w_tupleT, w_listL, w_listT, w_listNT, w_listNL, w_neg, w_negI, w_eListR1, w_iZpA, w_iZp3A, w_iEnA, w_zpTT, w_zpTL, w_zpLT, w_zpLL, w_enAL, w_enAT, w_isN, w_isT, w_nisT, w_isB, w_nisB, w_isI, w_nisI, w_isL, w_nisL, w_gT2, w_gT3, w_intB, w_intI, w_eMake, w_fld1, w_prop1, w_meth1, w_sub1, w_or2a1, w_own, w_inO, w_eIf, w_eqI, w_neI, w_eqB, w_neB, isi_int_int, isi_int_bl, isi_int_non, isi_int_str, isi_int_lst, isi_int_tup, isi_int_dct, isi_bool_int, isi_bool_bl, isi_bool_non, isi_bool_str, isi_bool_lst, isi_bool_tup, isi_bool_dct, isi_str_int, isi_str_bl, isi_str_non, isi_str_str, isi_str_lst, isi_str_tup, isi_str_dct, isi_list_int, isi_list_bl, isi_list_non, isi_list_str, isi_list_lst, isi_list_tup, isi_list_dct, isi_tuple_int, isi_tuple_bl, isi_tuple_non, isi_tuple_str, isi_tuple_lst, isi_tuple_tup, isi_tuple_dct, isi_dict_int, isi_dict_bl, isi_dict_non, isi_dict_str, isi_dict_lst, isi_dict_tup, isi_dict_dct, isi_lt_int, isi_o_int, isi_lt_bl, isi_o_bl, isi_lt_non, isi_o_non, isi_lt_str, isi_o_str, isi_lt_lst, isi_o_lst, isi_lt_tup, isi_o_tup, isi_lt_dct, isi_o_dct, isi_own, mapR_len, rngD_length, enumD_mapR, zip_mapR, zip3_mapR, rng0, rngA, List.length_map, startD, wipeD, List.map_cons, List.map_nil, List.length_cons, List.length_nil, List.replicate, List.cons_append, List.nil_append, List.append_nil, List.getElem?_cons_zero, List.getElem?_cons_succ, List.set_cons_succ, List.set_cons_zero, Bool.not_true, Bool.not_false, if_true, if_false, Bool.false_eq_true, decide_true, decide_false, true_and, and_true, and_self, and_imp, Int.zero_add, le2, le3, le4, le1, le0, Nat.sub_zero, Bool.true_and, Bool.and_true, Bool.false_and, Bool.and_false, Bool.true_or, Bool.false_or, Bool.or_false, Bool.or_true, beq_self_eq_true, not_true_eq_false, not_false_eq_true, decide_eq_true_eq, fldC1, ofC'1, par2_2, par3_3, w_par2E, w_par3E, w_slD, w_slF, w_eSlice, w_eNoP, w_eP, w_intO, w_gT21, w_zpLLT, w_truO1, w_binO, w_ninO, w_eCM, w_eqLL, w_neLL, w_eqTT, w_neTT, lcY_nil, lcY_cons, w_all2, at2_0, at2_1, at3_0, at3_1, at3_2, at4_0, at4_1, at4_2, at4_3, itm_some, ixLE, ixFE, ixTE, ixO0, setO0, put_some, ix2_0, ix2_1, ix4_0, ix4_1, ix4_2, ix4_3, false_and, and_false, implies_true, w_eClr, w_slAL, w_slAF, w_seqG, w_lenG, w_enAG, w_tupleG, ixGE, isi_lt_G, w_nisN, w_binI, w_eApp, w_eMakeF, isLO_b, ix_b, augIE, w_eMv, w_one, okTg_self, at_behind, set_behind, Nat.reduceAdd, Int.reduceLT, Int.reduceLE, Int.reduceToNat, Nat.reduceLT, Nat.reduceLeDiff, Nat.reduceEqDiff, Int.reduceAbs, Int.reduceAdd, Int.reduceEq, Int.reduceNeg, Int.reduceSub, Int.reduceMul, Nat.reduceSub, Int.cast_ofNat_Int, Int.natCast_zero, Int.natCast_one]
    rw [w_makeL1 (C := A.C_Jar) rfl]
    simp only [w_bind, w_pure, w_var, w_c, w_op2, w_nil, w_cons, w_tup, w_lst, w_newL, w_sub, w_add, w_mod, w_divE, w_powE, w_mulE, w_cmp, w_bD, w_eB, w_eTru, w_truB, w_ch, w_tand, w_tor, w_tnot, w_and, w_or, w_not, DL.w_next, w_ret, w_sif, w_expr, w_gN, w_asg, w_eCall, w_seq, goOn_nx, goOn_rt, w_lc, w_lcN, w_iR1, w_iR2, w_iSq, w_seqL, w_seqT, w_lenT, w_lenL, w_lenF, w_max, w_min, w_gSub, w_for, w_isi, w_if, w_tupleL, w_tupleT, w_listL, w_listT, w_listNT, w_listNL, w_neg, w_negI, w_eListR1, w_iZpA, w_iZp3A, w_iEnA, w_zpTT, w_zpTL, w_zpLT, w_zpLL, w_enAL, w_enAT, w_isN, w_isT, w_nisT, w_isB, w_nisB, w_isI, w_nisI, w_isL, w_nisL, w_gT2, w_gT3, w_intB, w_intI, w_eMake, w_fld1, w_prop1, w_meth1, w_sub1, w_or2a1, w_own, w_inO, w_eIf, w_eqI, w_neI, w_eqB, w_neB, isi_int_int, isi_int_bl, isi_int_non, isi_int_str, isi_int_lst, isi_int_tup, isi_int_dct, isi_bool_int, isi_bool_bl, isi_bool_non, isi_bool_str, isi_bool_lst, isi_bool_tup, isi_bool_dct, isi_str_int, isi_str_bl, isi_str_non, isi_str_str, isi_str_lst, isi_str_tup, isi_str_dct, isi_list_int, isi_list_bl, isi_list_non, isi_list_str, isi_list_lst, isi_list_tup, isi_list_dct, isi_tuple_int, isi_tuple_bl, isi_tuple_non, isi_tuple_str, isi_tuple_lst, isi_tuple_tup, isi_tuple_dct, isi_dict_int, isi_dict_bl, isi_dict_non, isi_dict_str, isi_dict_lst, isi_dict_tup, isi_dict_dct, isi_lt_int, isi_o_int, isi_lt_bl, isi_o_bl, isi_lt_non, isi_o_non, isi_lt_str, isi_o_str, isi_lt_lst, isi_o_lst, isi_lt_tup, isi_o_tup, isi_lt_dct, isi_o_dct, isi_own, mapR_len, rngD_length, enumD_mapR, zip_mapR, zip3_mapR, rng0, rngA, List.length_map, startD, wipeD, List.map_cons, List.map_nil, List.length_cons, List.length_nil, List.replicate, List.cons_append, List.nil_append, List.append_nil, List.getElem?_cons_zero, List.getElem?_cons_succ, List.set_cons_succ, List.set_cons_zero, Bool.not_true, Bool.not_false, if_true, if_false, Bool.false_eq_true, decide_true, decide_false, true_and, and_true, and_self, and_imp, Int.zero_add, le2, le3, le4, le1, le0, Nat.sub_zero, Bool.true_and, Bool.and_true, Bool.false_and, Bool.and_false, Bool.true_or, Bool.false_or, Bool.or_false, Bool.or_true, beq_self_eq_true, not_true_eq_false, not_false_eq_true, decide_eq_true_eq, fldC1, ofC'1, par2_2, par3_3, w_par2E, w_par3E, w_slD, w_slF, w_eSlice, w_eNoP, w_eP, w_intO, w_gT21, w_zpLLT, w_truO1, w_binO, w_ninO, w_eCM, w_eqLL, w_neLL, w_eqTT, w_neTT, lcY_nil, lcY_cons, w_all2, at2_0, at2_1, at3_0, at3_1, at3_2, at4_0, at4_1, at4_2, at4_3, itm_some, ixLE, ixFE, ixTE, ixO0, setO0, put_some, ix2_0, ix2_1, ix4_0, ix4_1, ix4_2, ix4_3, false_and, and_false, implies_true, w_eClr, w_slAL, w_slAF, w_seqG, w_lenG, w_enAG, w_tupleG, ixGE, isi_lt_G, w_nisN, w_binI, w_eApp, w_eMakeF, isLO_b, ix_b, augIE, w_eMv, w_one, okTg_self, at_behind, set_behind, Nat.reduceAdd, Int.reduceLT, Int.reduceLE, Int.reduceToNat, Nat.reduceLT, Nat.reduceLeDiff, Nat.reduceEqDiff, Int.reduceAbs, Int.reduceAdd, Int.reduceEq, Int.reduceNeg, Int.reduceSub, Int.reduceMul, Nat.reduceSub, Int.cast_ofNat_Int, Int.natCast_zero, Int.natCast_one, mvE last_at, last_set, jar_make (c := cnt l) hn hn1 fun i _ => cnt_nonneg]
    refine ⟨.app, ret_below below_jar ⟨rfl, List.take_left⟩⟩
  rcases hd with rfl | rfl
  · simp only [w_bind, w_pure, w_var, w_c, w_op2, w_nil, w_cons, w_tup, w_lst, w_newL, w_sub, w_add, w_mod, w_divE, w_powE, w_mulE, w_cmp, w_bD, w_eB, w_eTru, w_truB, w_ch, w_tand, w_tor, w_tnot, w_and, w_or, w_not, DL.w_next, w_ret, w_sif, w_expr, w_gN, w_asg, w_eCall, w_seq, goOn_nx, goOn_rt, w_lc, w_lcN, w_iR1, w_iR2, w_iSq, w_seqL, w_seqT, w_lenT, w_lenL, w_lenF, w_max, w_min, w_gSub, w_for, w_isi, w_if, w_tupleL, w_tupleT, w_listL, w_listT, w_listNT, w_listNL, w_neg, w_negI, w_eListR1, w_iZpA, w_iZp3A, w_iEnA, w_zpTT, w_zpTL, w_zpLT, w_zpLL, w_enAL, w_enAT, w_isN, w_isT, w_nisT, w_isB, w_nisB, w_isI, w_nisI, w_isL, w_nisL, w_gT2, w_gT3, w_intB, w_intI, w_eMake, w_fld1, w_prop1, w_meth1, w_sub1, w_or2a1, w_own, w_inO, w_eIf, w_eqI, w_neI, w_eqB, w_neB, isi_int_int, isi_int_bl, isi_int_non, isi_int_str, isi_int_lst, isi_int_tup, isi_int_dct, isi_bool_int, isi_bool_bl, isi_bool_non, isi_bool_str, isi_bool_lst, isi_bool_tup, isi_bool_dct, isi_str_int, isi_str_bl, isi_str_non, isi_str_str, isi_str_lst, isi_str_tup, isi_str_dct, isi_list_int, isi_list_bl, isi_list_non, isi_list_str, isi_list_lst, isi_list_tup, isi_list_dct, isi_tuple_int, isi_tuple_bl, isi_tuple_non, isi_tuple_str, isi_tuple_lst, isi_tuple_tup, isi_tuple_dct, isi_dict_int, isi_dict_bl, isi_dict_non, isi_dict_str, isi_dict_lst, isi_dict_tup, isi_dict_dct, isi_lt_int, isi_o_int, isi_lt_bl, isi_o_bl, isi_lt_non, isi_o_non, isi_lt_str, isi_o_str, isi_lt_lst, isi_o_lst, isi_lt_tup, isi_o_tup, isi_lt_dct, isi_o_dct, isi_own, mapR_len, rngD_length, enumD_mapR, zip_mapR, zip3_mapR, rng0, rngA, List.length_map, startD, wipeD, List.map_cons, List.map_nil, List.length_cons, List.length_nil, List.replicate, List.cons_append, List.nil_append, List.append_nil, List.getElem?_cons_zero, List.getElem?_cons_succ, List.set_cons_succ, List.set_cons_zero, Bool.not_true, Bool.not_false, if_true, if_false, Bool.false_eq_true, decide_true, decide_false, true_and, and_true, and_self, and_imp, Int.zero_add, le2, le3, le4, le1, le0, Nat.sub_zero, Bool.true_and, Bool.and_true, Bool.false_and, Bool.and_false, Bool.true_or, Bool.false_or, Bool.or_false, Bool.or_true, beq_self_eq_true, not_true_eq_false, not_false_eq_true, decide_eq_true_eq, fldC1, ofC'1, par2_2, par3_3, w_par2E, w_par3E, w_slD, w_slF, w_eSlice, w_eNoP, w_eP, w_intO, w_gT21, w_zpLLT, w_truO1, w_binO, w_ninO, w_eCM, w_eqLL, w_neLL, w_eqTT, w_neTT, lcY_nil, lcY_cons, w_all2, at2_0, at2_1, at3_0, at3_1, at3_2, at4_0, at4_1, at4_2, at4_3, itm_some, ixLE, ixFE, ixTE, ixO0, setO0, put_some, ix2_0, ix2_1, ix4_0, ix4_1, ix4_2, ix4_3, false_and, and_false, implies_true, w_eClr, w_slAL, w_slAF, w_seqG, w_lenG, w_enAG, w_tupleG, ixGE, isi_lt_G, w_nisN, w_binI, w_eApp, w_eMakeF, isLO_b, ix_b, augIE, w_eMv, w_one, okTg_self, at_behind, set_behind, Nat.reduceAdd, Int.reduceLT, Int.reduceLE, Int.reduceToNat, Nat.reduceLT, Nat.reduceLeDiff, Nat.reduceEqDiff, Int.reduceAbs, Int.reduceAdd, Int.reduceEq, Int.reduceNeg, Int.reduceSub, Int.reduceMul, Nat.reduceSub, Int.cast_ofNat_Int, Int.natCast_zero, Int.natCast_one, is_int_i, h1, h8, need_num h1 h8, is_seq_l, need_cols (.inl rfl) hl, w_mulN (show n ≤ 1000 by omega), Int.zero_add]
    exact loop.mono last
  · simp only [w_bind, w_pure, w_var, w_c, w_op2, w_nil, w_cons, w_tup, w_lst, w_newL, w_sub, w_add, w_mod, w_divE, w_powE, w_mulE, w_cmp, w_bD, w_eB, w_eTru, w_truB, w_ch, w_tand, w_tor, w_tnot, w_and, w_or, w_not, DL.w_next, w_ret, w_sif, w_expr, w_gN, w_asg, w_eCall, w_seq, goOn_nx, goOn_rt, w_lc, w_lcN, w_iR1, w_iR2, w_iSq, w_seqL, w_seqT, w_lenT, w_lenL, w_lenF, w_max, w_min, w_gSub, w_for, w_isi, w_if, w_tupleL, w_tupleT, w_listL, w_listT, w_listNT, w_listNL, w_neg, w_negI, w_eListR1, w_iZpA, w_iZp3A, w_iEnA, w_zpTT, w_zpTL, w_zpLT, w_zpLL, w_enAL, w_enAT, w_isN, w_isT, w_nisT, w_isB, w_nisB, w_isI, w_nisI, w_isL, w_nisL, w_gT2, w_gT3, w_intB, w_intI, w_eMake, w_fld1, w_prop1, w_meth1, w_sub1, w_or2a1, w_own, w_inO, w_eIf, w_eqI, w_neI, w_eqB, w_neB, isi_int_int, isi_int_bl, isi_int_non, isi_int_str, isi_int_lst, isi_int_tup, isi_int_dct, isi_bool_int, isi_bool_bl, isi_bool_non, isi_bool_str, isi_bool_lst, isi_bool_tup, isi_bool_dct, isi_str_int, isi_str_bl, isi_str_non, isi_str_str, isi_str_lst, isi_str_tup, isi_str_dct, isi_list_int, isi_list_bl, isi_list_non, isi_list_str, isi_list_lst, isi_list_tup, isi_list_dct, isi_tuple_int, isi_tuple_bl, isi_tuple_non, isi_tuple_str, isi_tuple_lst, isi_tuple_tup, isi_tuple_dct, isi_dict_int, isi_dict_bl, isi_dict_non, isi_dict_str, isi_dict_lst, isi_dict_tup, isi_dict_dct, isi_lt_int, isi_o_int, isi_lt_bl, isi_o_bl, isi_lt_non, isi_o_non, isi_lt_str, isi_o_str, isi_lt_lst, isi_o_lst, isi_lt_tup, isi_o_tup, isi_lt_dct, isi_o_dct, isi_own, mapR_len, rngD_length, enumD_mapR, zip_mapR, zip3_mapR, rng0, rngA, List.length_map, startD, wipeD, List.map_cons, List.map_nil, List.length_cons, List.length_nil, List.replicate, List.cons_append, List.nil_append, List.append_nil, List.getElem?_cons_zero, List.getElem?_cons_succ, List.set_cons_succ, List.set_cons_zero, Bool.not_true, Bool.not_false, if_true, if_false, Bool.false_eq_true, decide_true, decide_false, true_and, and_true, and_self, and_imp, Int.zero_add, le2, le3, le4, le1, le0, Nat.sub_zero, Bool.true_and, Bool.and_true, Bool.false_and, Bool.and_false, Bool.true_or, Bool.false_or, Bool.or_false, Bool.or_true, beq_self_eq_true, not_true_eq_false, not_false_eq_true, decide_eq_true_eq, fldC1, ofC'1, par2_2, par3_3, w_par2E, w_par3E, w_slD, w_slF, w_eSlice, w_eNoP, w_eP, w_intO, w_gT21, w_zpLLT, w_truO1, w_binO, w_ninO, w_eCM, w_eqLL, w_neLL, w_eqTT, w_neTT, lcY_nil, lcY_cons, w_all2, at2_0, at2_1, at3_0, at3_1, at3_2, at4_0, at4_1, at4_2, at4_3, itm_some, ixLE, ixFE, ixTE, ixO0, setO0, put_some, ix2_0, ix2_1, ix4_0, ix4_1, ix4_2, ix4_3, false_and, and_false, implies_true, w_eClr, w_slAL, w_slAF, w_seqG, w_lenG, w_enAG, w_tupleG, ixGE, isi_lt_G, w_nisN, w_binI, w_eApp, w_eMakeF, isLO_b, ix_b, augIE, w_eMv, w_one, okTg_self, at_behind, set_behind, Nat.reduceAdd, Int.reduceLT, Int.reduceLE, Int.reduceToNat, Nat.reduceLT, Nat.reduceLeDiff, Nat.reduceEqDiff, Int.reduceAbs, Int.reduceAdd, Int.reduceEq, Int.reduceNeg, Int.reduceSub, Int.reduceMul, Nat.reduceSub, Int.cast_ofNat_Int, Int.natCast_zero, Int.natCast_one, is_int_i, h1, h8, need_num h1 h8, is_seq_t, need_cols (.inr rfl) hl, w_mulN (show n ≤ 1000 by omega), Int.zero_add]
    exact loop.mono last
end
end Law
end
section
namespace Law
open PySem PySem.Spec PyProof.Rows L2 DL
section
variable {A : As} {st : Sto} {δ : En}
/-! ### the law -/
theorem ten30 : divOk (10 ^ 30) := by
  refine ⟨by decide, ?_⟩
  have h : (10 ^ 30 : Int).natAbs < 2 ^ 100 := by decide
  exact Nat.lt_of_lt_of_le h (by decide +kernel)
theorem counts_ok {R : Sto} {n : Nat} {P : D → Sto → Prop} (hn : n ≤ 8) (hJ : PoolQ R st) (h : ∀ (c : Nat → Int) s, (∀ i, i < n → 0 ≤ c i) → PoolQ R s → P (intsD n c) s) : W (g_ulaw_counts A [.obj 0, .int (n : Nat)]) st P := by
  obtain ⟨c0, z0, rfl⟩ := hJ
  refine callHL rfl ?_
  unfold b_ulaw_counts
  have r1 : ∀ {s : Sto} {P : List D → Sto → Prop}, W (rng1 [.int (n : Nat)]) s P = P (mapR n fun i => .int (i : Nat)) s := w_r1 (by omega)
  have p30 : powOk 10 30 := powOk_of (by decide) (by decide) (by decide)
  simp only [w_bind, w_pure, w_var, w_c, w_op2, w_nil, w_cons, w_tup, w_lst, w_newL, w_sub, w_add, w_mod, w_divE, w_powE, w_mulE, w_cmp, w_bD, w_eB, w_eTru, w_truB, w_ch, w_tand, w_tor, w_tnot, w_and, w_or, w_not, DL.w_next, w_ret, w_sif, w_expr, w_gN, w_asg, w_eCall, w_seq, goOn_nx, goOn_rt, w_lc, w_lcN, w_iR1, w_iR2, w_iSq, w_seqL, w_seqT, w_lenT, w_lenL, w_lenF, w_max, w_min, w_gSub, w_for, w_isi, w_if, w_tupleL, w_tupleT, w_listL, w_listT, w_listNT, w_listNL, w_neg, w_negI, w_eListR1, w_iZpA, w_iZp3A, w_iEnA, w_zpTT, w_zpTL, w_zpLT, w_zpLL, w_enAL, w_enAT, w_isN, w_isT, w_nisT, w_isB, w_nisB, w_isI, w_nisI, w_isL, w_nisL, w_gT2, w_gT3, w_intB, w_intI, w_eMake, w_fld1, w_prop1, w_meth1, w_sub1, w_or2a1, w_own, w_inO, w_eIf, w_eqI, w_neI, w_eqB, w_neB, isi_int_int, isi_int_bl, isi_int_non, isi_int_str, isi_int_lst, isi_int_tup, isi_int_dct, isi_bool_int, isi_bool_bl, isi_bool_non, isi_bool_str, isi_bool_lst, isi_bool_tup, isi_bool_dct, isi_str_int, isi_str_bl, isi_str_non, isi_str_str, isi_str_lst, isi_str_tup, isi_str_dct, isi_list_int, isi_list_bl, isi_list_non, isi_list_str, isi_list_lst, isi_list_tup, isi_list_dct, isi_tuple_int, isi_tuple_bl, isi_tuple_non, isi_tuple_str, isi_tuple_lst, isi_tuple_tup, isi_tuple_dct, isi_dict_int, isi_dict_bl, isi_dict_non, isi_dict_str, isi_dict_lst, isi_dict_tup, isi_dict_dct, isi_lt_int, isi_o_int, isi_lt_bl, isi_o_bl, isi_lt_non, isi_o_non, isi_lt_str, isi_o_str, isi_lt_lst, isi_o_lst, isi_lt_tup, isi_o_tup, isi_lt_dct, isi_o_dct, isi_own, mapR_len, rngD_length, enumD_mapR, zip_mapR, zip3_mapR, rng0, rngA, List.length_map, startD, wipeD, List.map_cons, List.map_nil, List.length_cons, List.length_nil, List.replicate, List.cons_append, List.nil_append, List.append_nil, List.getElem?_cons_zero, List.getElem?_cons_succ, List.set_cons_succ, List.set_cons_zero, Bool.not_true, Bool.not_false, if_true, if_false, Bool.false_eq_true, decide_true, decide_false, true_and, and_true, and_self, and_imp, Int.zero_add, le2, le3, le4, le1, le0, Nat.sub_zero, Bool.true_and, Bool.and_true, Bool.false_and, Bool.and_false, Bool.true_or, Bool.false_or, Bool.or_false, Bool.or_true, beq_self_eq_true, not_true_eq_false, not_false_eq_true, decide_eq_true_eq, fldC1, ofC'1, par2_2, par3_3, w_par2E, w_par3E, w_slD, w_slF, w_eSlice, w_eNoP, w_eP, w_intO, w_gT21, w_zpLLT, w_truO1, w_binO, w_ninO, w_eCM, w_eqLL, w_neLL, w_eqTT, w_neTT, lcY_nil, lcY_cons, w_all2, at2_0, at2_1, at3_0, at3_1, at3_2, at4_0, at4_1, at4_2, at4_3, itm_some, ixLE, ixFE, ixTE, ixO0, setO0, put_some, ix2_0, ix2_1, ix4_0, ix4_1, ix4_2, ix4_3, false_and, and_false, implies_true, w_eClr, w_slAL, w_slAF, w_seqG, w_lenG, w_enAG, w_tupleG, ixGE, isi_lt_G, w_nisN, w_binI, w_eApp, w_eMakeF, isLO_b, ix_b, augIE, w_eMv, w_one, okTg_self, at_behind, set_behind, Nat.reduceAdd, Int.reduceLT, Int.reduceLE, Int.reduceToNat, Nat.reduceLT, Nat.reduceLeDiff, Nat.reduceEqDiff, Int.reduceAbs, Int.reduceAdd, Int.reduceEq, Int.reduceNeg, Int.reduceSub, Int.reduceMul, Nat.reduceSub, Int.cast_ofNat_Int, Int.natCast_zero, Int.natCast_one, r1]
  refine forJ (fun i s => ∃ (c : Nat → Int) (a b : Int), (∀ j, j < i → 0 ≤ c j) ∧ s = cellQ a b :: (R ++ [.lst (mapR i fun j => .int (c j))])) (fun i s hi hJ => ?_) (fun s hJ => ?_) ⟨fun _ => 0, c0, z0, fun j h => absurd h (Nat.not_lt_zero _), rfl⟩
  · obtain ⟨c, a, b, hc, rfl⟩ := hJ
    rw [w_gN]
    refine scopeHB ?_
    simp only [w_bind, w_pure, w_var, w_c, w_op2, w_nil, w_cons, w_tup, w_lst, w_newL, w_sub, w_add, w_mod, w_divE, w_powE, w_mulE, w_cmp, w_bD, w_eB, w_eTru, w_truB, w_ch, w_tand, w_tor, w_tnot, w_and, w_or, w_not, DL.w_next, w_ret, w_sif, w_expr, w_gN, w_asg, w_eCall, w_seq, goOn_nx, goOn_rt, w_lc, w_lcN, w_iR1, w_iR2, w_iSq, w_seqL, w_seqT, w_lenT, w_lenL, w_lenF, w_max, w_min, w_gSub, w_for, w_isi, w_if, w_tupleL, w_tupleT, w_listL, w_listT, w_listNT, w_listNL, w_neg, w_negI, w_eListR1, w_iZpA, w_iZp3A, w_iEnA, w_zpTT, w_zpTL, w_zpLT, w_zpLL, w_enAL, w_enAT, w_isN, w_isT, w_nisT, w_isB, w_nisB, w_isI, w_nisI, w_isL, w_nisL, w_gT2, w_gT3, w_intB, w_intI, w_eMake, w_fld1, w_prop1, w_meth1, w_sub1, w_or2a1, w_own, w_inO, w_eIf, w_eqI, w_neI, w_eqB, w_neB, isi_int_int, isi_int_bl, isi_int_non, isi_int_str, isi_int_lst, isi_int_tup, isi_int_dct, isi_bool_int, isi_bool_bl, isi_bool_non, isi_bool_str, isi_bool_lst, isi_bool_tup, isi_bool_dct, isi_str_int, isi_str_bl, isi_str_non, isi_str_str, isi_str_lst, isi_str_tup, isi_str_dct, isi_list_int, isi_list_bl, isi_list_non, isi_list_str, isi_list_lst, isi_list_tup, isi_list_dct, isi_tuple_int, isi_tuple_bl, isi_tuple_non, isi_tuple_str, isi_tuple_lst, isi_tuple_tup, isi_tuple_dct, isi_dict_int, isi_dict_bl, isi_dict_non, isi_dict_str, isi_dict_lst, isi_dict_tup, isi_dict_dct, isi_lt_int, isi_o_int, isi_lt_bl, isi_o_bl, isi_lt_non, isi_o_non, isi_lt_str, isi_o_str, isi_lt_lst, isi_o_lst, isi_lt_tup, isi_o_tup, isi_lt_dct, isi_o_dct, isi_own, mapR_len, rngD_length, enumD_mapR, zip_mapR, zip3_mapR, rng0, rngA, List.length_map, startD, wipeD, List.map_cons, List.map_nil, List.length_cons, List.length_nil, List.replicate, List.cons_append, List.nil_append, List.append_nil, List.getElem?_cons_zero, List.getElem?_cons_succ, List.set_cons_succ, List.set_cons_zero, Bool.not_true, Bool.not_false, if_true, if_false, Bool.false_eq_true, decide_true, decide_false, true_and, and_true, and_self, and_imp, Int.zero_add, le2, le3, le4, le1, le0, Nat.sub_zero, Bool.true_and, Bool.and_true, Bool.false_and, Bool.and_false, Bool.true_or, Bool.false_or, Bool.or_false, Bool.or_true, beq_self_eq_true, not_true_eq_false, not_false_eq_true, decide_eq_true_eq, fldC1, ofC'1, par2_2, par3_3, w_par2E, w_par3E, w_slD, w_slF, w_eSlice, w_eNoP, w_eP, w_intO, w_gT21, w_zpLLT, w_truO1, w_binO, w_ninO, w_eCM, w_eqLL, w_neLL, w_eqTT, w_neTT, lcY_nil, lcY_cons, w_all2, at2_0, at2_1, at3_0, at3_1, at3_2, at4_0, at4_1, at4_2, at4_3, itm_some, ixLE, ixFE, ixTE, ixO0, setO0, put_some, ix2_0, ix2_1, ix4_0, ix4_1, ix4_2, ix4_3, false_and, and_false, implies_true, w_eClr, w_slAL, w_slAF, w_seqG, w_lenG, w_enAG, w_tupleG, ixGE, isi_lt_G, w_nisN, w_binI, w_eApp, w_eMakeF, isLO_b, ix_b, augIE, w_eMv, w_one, okTg_self, at_behind, set_behind, Nat.reduceAdd, Int.reduceLT, Int.reduceLE, Int.reduceToNat, Nat.reduceLT, Nat.reduceLeDiff, Nat.reduceEqDiff, Int.reduceAbs, Int.reduceAdd, Int.reduceEq, Int.reduceNeg, Int.reduceSub, Int.reduceMul, Nat.reduceSub, Int.cast_ofNat_Int, Int.natCast_zero, Int.natCast_one]
    refine draw_ok ⟨a, b, rfl⟩ (by decide) (divOk_of (by decide) (by decide)) fun d1 s1 a1 b1 hJ => ?_
    simp only [w_bind, w_pure, w_var, w_c, w_op2, w_nil, w_cons, w_tup, w_lst, w_newL, w_sub, w_add, w_mod, w_divE, w_powE, w_mulE, w_cmp, w_bD, w_eB, w_eTru, w_truB, w_ch, w_tand, w_tor, w_tnot, w_and, w_or, w_not, DL.w_next, w_ret, w_sif, w_expr, w_gN, w_asg, w_eCall, w_seq, goOn_nx, goOn_rt, w_lc, w_lcN, w_iR1, w_iR2, w_iSq, w_seqL, w_seqT, w_lenT, w_lenL, w_lenF, w_max, w_min, w_gSub, w_for, w_isi, w_if, w_tupleL, w_tupleT, w_listL, w_listT, w_listNT, w_listNL, w_neg, w_negI, w_eListR1, w_iZpA, w_iZp3A, w_iEnA, w_zpTT, w_zpTL, w_zpLT, w_zpLL, w_enAL, w_enAT, w_isN, w_isT, w_nisT, w_isB, w_nisB, w_isI, w_nisI, w_isL, w_nisL, w_gT2, w_gT3, w_intB, w_intI, w_eMake, w_fld1, w_prop1, w_meth1, w_sub1, w_or2a1, w_own, w_inO, w_eIf, w_eqI, w_neI, w_eqB, w_neB, isi_int_int, isi_int_bl, isi_int_non, isi_int_str, isi_int_lst, isi_int_tup, isi_int_dct, isi_bool_int, isi_bool_bl, isi_bool_non, isi_bool_str, isi_bool_lst, isi_bool_tup, isi_bool_dct, isi_str_int, isi_str_bl, isi_str_non, isi_str_str, isi_str_lst, isi_str_tup, isi_str_dct, isi_list_int, isi_list_bl, isi_list_non, isi_list_str, isi_list_lst, isi_list_tup, isi_list_dct, isi_tuple_int, isi_tuple_bl, isi_tuple_non, isi_tuple_str, isi_tuple_lst, isi_tuple_tup, isi_tuple_dct, isi_dict_int, isi_dict_bl, isi_dict_non, isi_dict_str, isi_dict_lst, isi_dict_tup, isi_dict_dct, isi_lt_int, isi_o_int, isi_lt_bl, isi_o_bl, isi_lt_non, isi_o_non, isi_lt_str, isi_o_str, isi_lt_lst, isi_o_lst, isi_lt_tup, isi_o_tup, isi_lt_dct, isi_o_dct, isi_own, mapR_len, rngD_length, enumD_mapR, zip_mapR, zip3_mapR, rng0, rngA, List.length_map, startD, wipeD, List.map_cons, List.map_nil, List.length_cons, List.length_nil, List.replicate, List.cons_append, List.nil_append, List.append_nil, List.getElem?_cons_zero, List.getElem?_cons_succ, List.set_cons_succ, List.set_cons_zero, Bool.not_true, Bool.not_false, if_true, if_false, Bool.false_eq_true, decide_true, decide_false, true_and, and_true, and_self, and_imp, Int.zero_add, le2, le3, le4, le1, le0, Nat.sub_zero, Bool.true_and, Bool.and_true, Bool.false_and, Bool.and_false, Bool.true_or, Bool.false_or, Bool.or_false, Bool.or_true, beq_self_eq_true, not_true_eq_false, not_false_eq_true, decide_eq_true_eq, fldC1, ofC'1, par2_2, par3_3, w_par2E, w_par3E, w_slD, w_slF, w_eSlice, w_eNoP, w_eP, w_intO, w_gT21, w_zpLLT, w_truO1, w_binO, w_ninO, w_eCM, w_eqLL, w_neLL, w_eqTT, w_neTT, lcY_nil, lcY_cons, w_all2, at2_0, at2_1, at3_0, at3_1, at3_2, at4_0, at4_1, at4_2, at4_3, itm_some, ixLE, ixFE, ixTE, ixO0, setO0, put_some, ix2_0, ix2_1, ix4_0, ix4_1, ix4_2, ix4_3, false_and, and_false, implies_true, w_eClr, w_slAL, w_slAF, w_seqG, w_lenG, w_enAG, w_tupleG, ixGE, isi_lt_G, w_nisN, w_binI, w_eApp, w_eMakeF, isLO_b, ix_b, augIE, w_eMv, w_one, okTg_self, at_behind, set_behind, Nat.reduceAdd, Int.reduceLT, Int.reduceLE, Int.reduceToNat, Nat.reduceLT, Nat.reduceLeDiff, Nat.reduceEqDiff, Int.reduceAbs, Int.reduceAdd, Int.reduceEq, Int.reduceNeg, Int.reduceSub, Int.reduceMul, Nat.reduceSub, Int.cast_ofNat_Int, Int.natCast_zero, Int.natCast_one, p30]
    refine draw_ok hJ (by decide) ten30 fun d2 s2 a2 b2 hJ => ?_
    (try simp only [w_bind, w_pure, w_var, w_c, w_op2, w_nil, w_cons, w_tup, w_lst, w_newL, w_sub, w_add, w_mod, w_divE, w_powE, w_mulE, w_cmp, w_bD, w_eB, w_eTru, w_truB, w_ch, w_tand, w_tor, w_tnot, w_and, w_or, w_not, DL.w_next, w_ret, w_sif, w_expr, w_gN, w_asg, w_eCall, w_seq, goOn_nx, goOn_rt, w_lc, w_lcN, w_iR1, w_iR2, w_iSq, w_seqL, w_seqT, w_lenT, w_lenL, w_lenF, w_max, w_min, w_gSub, w_for, w_isi, w_if, w_tupleL, w_tupleT, w_listL, w_listT, w_listNT, w_listNL, w_neg, w_negI, w_eListR1, w_iZpA, w_iZp3A, w_iEnA, w_zpTT, w_zpTL, w_zpLT, w_zpLL, w_enAL, w_enAT, w_isN, w_isT, w_nisT, w_isB, w_nisB, w_isI, w_nisI, w_isL, w_nisL, w_gT2, w_gT3, w_intB, w_intI, w_eMake, w_fld1, w_prop1, w_meth1, w_sub1, w_or2a1, w_own, w_inO, w_eIf, w_eqI, w_neI, w_eqB, w_neB, isi_int_int, isi_int_bl, isi_int_non, isi_int_str, isi_int_lst, isi_int_tup, isi_int_dct, isi_bool_int, isi_bool_bl, isi_bool_non, isi_bool_str, isi_bool_lst, isi_bool_tup, isi_bool_dct, isi_str_int, isi_str_bl, isi_str_non, isi_str_str, isi_str_lst, isi_str_tup, isi_str_dct, isi_list_int, isi_list_bl, isi_list_non, isi_list_str, isi_list_lst, isi_list_tup, isi_list_dct, isi_tuple_int, isi_tuple_bl, isi_tuple_non, isi_tuple_str, isi_tuple_lst, isi_tuple_tup, isi_tuple_dct, isi_dict_int, isi_dict_bl, isi_dict_non, isi_dict_str, isi_dict_lst, isi_dict_tup, isi_dict_dct, isi_lt_int, isi_o_int, isi_lt_bl, isi_o_bl, isi_lt_non, isi_o_non, isi_lt_str, isi_o_str, isi_lt_lst, isi_o_lst, isi_lt_tup, isi_o_tup, isi_lt_dct, isi_o_dct, isi_own, mapR_len, rngD_length, enumD_mapR, zip_mapR, zip3_mapR, rng0, rngA, List.length_map, startD, wipeD, List.map_cons, List.map_nil, List.length_cons, List.length_nil, List.replicate, List.cons_append, List.nil_append, List.append_nil, List.getElem?_cons_zero, List.getElem?_cons_succ, List.set_cons_succ, List.set_cons_zero, Bool.not_true, Bool.not_false, if_true, if_false, Bool.false_eq_true, decide_true, decide_false, true_and, and_true, and_self, and_imp, Int.zero_add, le2, le3, le4, le1, le0, Nat.sub_zero, Bool.true_and, Bool.and_true, Bool.false_and, Bool.and_false, Bool.true_or, Bool.false_or, Bool.or_false, Bool.or_true, beq_self_eq_true, not_true_eq_false, not_false_eq_true, decide_eq_true_eq, fldC1, ofC'1, par2_2, par3_3, w_par2E, w_par3E, w_slD, w_slF, w_eSlice, w_eNoP, w_eP, w_intO, w_gT21, w_zpLLT, w_truO1, w_binO, w_ninO, w_eCM, w_eqLL, w_neLL, w_eqTT, w_neTT, lcY_nil, lcY_cons, w_all2, at2_0, at2_1, at3_0, at3_1, at3_2, at4_0, at4_1, at4_2, at4_3, itm_some, ixLE, ixFE, ixTE, ixO0, setO0, put_some, ix2_0, ix2_1, ix4_0, ix4_1, ix4_2, ix4_3, false_and, and_false, implies_true, w_eClr, w_slAL, w_slAF, w_seqG, w_lenG, w_enAG, w_tupleG, ixGE, isi_lt_G, w_nisN, w_binI, w_eApp, w_eMakeF, isLO_b, ix_b, augIE, w_eMv, w_one, okTg_self, at_behind, set_behind, Nat.reduceAdd, Int.reduceLT, Int.reduceLE, Int.reduceToNat, Nat.reduceLT, Nat.reduceLeDiff, Nat.reduceEqDiff, Int.reduceAbs, Int.reduceAdd, Int.reduceEq, Int.reduceNeg, Int.reduceSub, Int.reduceMul, Nat.reduceSub, Int.cast_ofNat_Int, Int.natCast_zero, Int.natCast_one])
    refine draw_ok hJ (by decide) (divOk_of (by decide) (by decide)) fun d3 s3 a3 b3 hJ => ?_
    obtain ⟨v, hv, hat⟩ : ∃ v : Int, 0 ≤ v ∧ atI [D.int 0, .int d1, .int d2] d3 = some (.int v) := by
      have e : d3 = 0 ∨ d3 = 1 ∨ d3 = 2 := by omega
      rcases e with rfl | rfl | rfl
      · exact ⟨0, Int.le_refl _, rfl⟩
      · exact ⟨d1, a1, rfl⟩
      · exact ⟨d2, a2, rfl⟩
    obtain ⟨a', b', rfl⟩ := hJ
    have hl : i < sizeLine := Nat.lt_of_lt_of_le (show i < 1000 by omega) (line_le (Nat.le_refl _))
    simp only [w_bind, w_pure, w_var, w_c, w_op2, w_nil, w_cons, w_tup, w_lst, w_newL, w_sub, w_add, w_mod, w_divE, w_powE, w_mulE, w_cmp, w_bD, w_eB, w_eTru, w_truB, w_ch, w_tand, w_tor, w_tnot, w_and, w_or, w_not, DL.w_next, w_ret, w_sif, w_expr, w_gN, w_asg, w_eCall, w_seq, goOn_nx, goOn_rt, w_lc, w_lcN, w_iR1, w_iR2, w_iSq, w_seqL, w_seqT, w_lenT, w_lenL, w_lenF, w_max, w_min, w_gSub, w_for, w_isi, w_if, w_tupleL, w_tupleT, w_listL, w_listT, w_listNT, w_listNL, w_neg, w_negI, w_eListR1, w_iZpA, w_iZp3A, w_iEnA, w_zpTT, w_zpTL, w_zpLT, w_zpLL, w_enAL, w_enAT, w_isN, w_isT, w_nisT, w_isB, w_nisB, w_isI, w_nisI, w_isL, w_nisL, w_gT2, w_gT3, w_intB, w_intI, w_eMake, w_fld1, w_prop1, w_meth1, w_sub1, w_or2a1, w_own, w_inO, w_eIf, w_eqI, w_neI, w_eqB, w_neB, isi_int_int, isi_int_bl, isi_int_non, isi_int_str, isi_int_lst, isi_int_tup, isi_int_dct, isi_bool_int, isi_bool_bl, isi_bool_non, isi_bool_str, isi_bool_lst, isi_bool_tup, isi_bool_dct, isi_str_int, isi_str_bl, isi_str_non, isi_str_str, isi_str_lst, isi_str_tup, isi_str_dct, isi_list_int, isi_list_bl, isi_list_non, isi_list_str, isi_list_lst, isi_list_tup, isi_list_dct, isi_tuple_int, isi_tuple_bl, isi_tuple_non, isi_tuple_str, isi_tuple_lst, isi_tuple_tup, isi_tuple_dct, isi_dict_int, isi_dict_bl, isi_dict_non, isi_dict_str, isi_dict_lst, isi_dict_tup, isi_dict_dct, isi_lt_int, isi_o_int, isi_lt_bl, isi_o_bl, isi_lt_non, isi_o_non, isi_lt_str, isi_o_str, isi_lt_lst, isi_o_lst, isi_lt_tup, isi_o_tup, isi_lt_dct, isi_o_dct, isi_own, mapR_len, rngD_length, enumD_mapR, zip_mapR, zip3_mapR, rng0, rngA, List.length_map, startD, wipeD, List.map_cons, List.map_nil, List.length_cons, List.length_nil, List.replicate, List.cons_append, List.nil_append, List.append_nil, List.getElem?_cons_zero, List.getElem?_cons_succ, List.set_cons_succ, List.set_cons_zero, Bool.not_true, Bool.not_false, if_true, if_false, Bool.false_eq_true, decide_true, decide_false, true_and, and_true, and_self, and_imp, Int.zero_add, le2, le3, le4, le1, le0, Nat.sub_zero, Bool.true_and, Bool.and_true, Bool.false_and, Bool.and_false, Bool.true_or, Bool.false_or, Bool.or_false, Bool.or_true, beq_self_eq_true, not_true_eq_false, not_false_eq_true, decide_eq_true_eq, fldC1, ofC'1, par2_2, par3_3, w_par2E, w_par3E, w_slD, w_slF, w_eSlice, w_eNoP, w_eP, w_intO, w_gT21, w_zpLLT, w_truO1, w_binO, w_ninO, w_eCM, w_eqLL, w_neLL, w_eqTT, w_neTT, lcY_nil, lcY_cons, w_all2, at2_0, at2_1, at3_0, at3_1, at3_2, at4_0, at4_1, at4_2, at4_3, itm_some, ixLE, ixFE, ixTE, ixO0, setO0, put_some, ix2_0, ix2_1, ix4_0, ix4_1, ix4_2, ix4_3, false_and, and_false, implies_true, w_eClr, w_slAL, w_slAF, w_seqG, w_lenG, w_enAG, w_tupleG, ixGE, isi_lt_G, w_nisN, w_binI, w_eApp, w_eMakeF, isLO_b, ix_b, augIE, w_eMv, w_one, okTg_self, at_behind, set_behind, Nat.reduceAdd, Int.reduceLT, Int.reduceLE, Int.reduceToNat, Nat.reduceLT, Nat.reduceLeDiff, Nat.reduceEqDiff, Int.reduceAbs, Int.reduceAdd, Int.reduceEq, Int.reduceNeg, Int.reduceSub, Int.reduceMul, Nat.reduceSub, Int.cast_ofNat_Int, Int.natCast_zero, Int.natCast_one, hat, app_b (show (mapR i fun j => D.int (c j)).length < sizeLine by rw [mapR_len]; exact hl)]
    refine ⟨_, _, rfl, fun k => below_cellQ, fun k => ?_, ?_, rfl, fun j => if j = i then v else c j, a', b', fun j hj => ?_, ?_⟩
    · simp only [unsetAll, belowE, List.set_cons_succ, List.set_cons_zero, List.all_cons, List.all_nil, belowO_some, belowO_none, belowD_G, belowD, belowDs, belowFs, belowC, belowDs_mapR, belowDs_map', belowDs_app', Bool.and_true, Bool.and_self, Bool.true_and, all_true', List.length_nil, List.length_cons, List.length_append, Nat.reduceAdd, Nat.reduceLT, decide_true, Nat.zero_lt_succ, Nat.lt_add_one, and_true, true_and]
    · simp only [unsetAll, belowE, List.set_cons_succ, List.set_cons_zero, List.all_cons, List.all_nil, belowO_some, belowO_none, belowD_G, belowD, belowDs, belowFs, belowC, belowDs_mapR, belowDs_map', belowDs_app', Bool.and_true, Bool.and_self, Bool.true_and, all_true', List.length_nil, List.length_cons, List.length_append, Nat.reduceAdd, Nat.reduceLT, decide_true, Nat.zero_lt_succ, Nat.lt_add_one, and_true, true_and]
    · dsimp only
      split
      · exact hv
      · exact hc j (by omega)
    · have e : (mapR i fun j => D.int (c j)) ++ [D.int v] = mapR (i + 1) fun j => .int (if j = i then v else c j) := by
        rw [mapR_succ, if_pos rfl]
        congr 1
        exact mapR_ext fun j hj => by rw [if_neg (by omega)]
      rw [e]
  · obtain ⟨c, a, b, hc, rfl⟩ := hJ
    (try simp only [w_bind, w_pure, w_var, w_c, w_op2, w_nil, w_cons, w_tup, w_lst, w_newL, w_sub, w_add, w_mod, w_divE, w_powE, w_mulE, w_cmp, w_bD, w_eB, w_eTru, w_truB, w_ch, w_tand, w_tor, w_tnot, w_and, w_or, w_not, DL.w_next, w_ret, w_sif, w_expr, w_gN, w_asg, w_eCall, w_seq, goOn_nx, goOn_rt, w_lc, w_lcN, w_iR1, w_iR2, w_iSq, w_seqL, w_seqT, w_lenT, w_lenL, w_lenF, w_max, w_min, w_gSub, w_for, w_isi, w_if, w_tupleL, w_tupleT, w_listL, w_listT, w_listNT, w_listNL, w_neg, w_negI, w_eListR1, w_iZpA, w_iZp3A, w_iEnA, w_zpTT, w_zpTL, w_zpLT, w_zpLL, w_enAL, w_enAT, w_isN, w_isT, w_nisT, w_isB, w_nisB, w_isI, w_nisI, w_isL, w_nisL, w_gT2, w_gT3, w_intB, w_intI, w_eMake, w_fld1, w_prop1, w_meth1, w_sub1, w_or2a1, w_own, w_inO, w_eIf, w_eqI, w_neI, w_eqB, w_neB, isi_int_int, isi_int_bl, isi_int_non, isi_int_str, isi_int_lst, isi_int_tup, isi_int_dct, isi_bool_int, isi_bool_bl, isi_bool_non, isi_bool_str, isi_bool_lst, isi_bool_tup, isi_bool_dct, isi_str_int, isi_str_bl, isi_str_non, isi_str_str, isi_str_lst, isi_str_tup, isi_str_dct, isi_list_int, isi_list_bl, isi_list_non, isi_list_str, isi_list_lst, isi_list_tup, isi_list_dct, isi_tuple_int, isi_tuple_bl, isi_tuple_non, isi_tuple_str, isi_tuple_lst, isi_tuple_tup, isi_tuple_dct, isi_dict_int, isi_dict_bl, isi_dict_non, isi_dict_str, isi_dict_lst, isi_dict_tup, isi_dict_dct, isi_lt_int, isi_o_int, isi_lt_bl, isi_o_bl, isi_lt_non, isi_o_non, isi_lt_str, isi_o_str, isi_lt_lst, isi_o_lst, isi_lt_tup, isi_o_tup, isi_lt_dct, isi_o_dct, isi_own, mapR_len, rngD_length, enumD_mapR, zip_mapR, zip3_mapR, rng0, rngA, List.length_map, startD, wipeD, List.map_cons, List.map_nil, List.length_cons, List.length_nil, List.replicate, List.cons_append, List.nil_append, List.append_nil, List.getElem?_cons_zero, List.getElem?_cons_succ, List.set_cons_succ, List.set_cons_zero, Bool.not_true, Bool.not_false, if_true, if_false, Bool.false_eq_true, decide_true, decide_false, true_and, and_true, and_self, and_imp, Int.zero_add, le2, le3, le4, le1, le0, Nat.sub_zero, Bool.true_and, Bool.and_true, Bool.false_and, Bool.and_false, Bool.true_or, Bool.false_or, Bool.or_false, Bool.or_true, beq_self_eq_true, not_true_eq_false, not_false_eq_true, decide_eq_true_eq, fldC1, ofC'1, par2_2, par3_3, w_par2E, w_par3E, w_slD, w_slF, w_eSlice, w_eNoP, w_eP, w_intO, w_gT21, w_zpLLT, w_truO1, w_binO, w_ninO, w_eCM, w_eqLL, w_neLL, w_eqTT, w_neTT, lcY_nil, lcY_cons, w_all2, at2_0, at2_1, at3_0, at3_1, at3_2, at4_0, at4_1, at4_2, at4_3, itm_some, ixLE, ixFE, ixTE, ixO0, setO0, put_some, ix2_0, ix2_1, ix4_0, ix4_1, ix4_2, ix4_3, false_and, and_false, implies_true, w_eClr, w_slAL, w_slAF, w_seqG, w_lenG, w_enAG, w_tupleG, ixGE, isi_lt_G, w_nisN, w_binI, w_eApp, w_eMakeF, isLO_b, ix_b, augIE, w_eMv, w_one, okTg_self, at_behind, set_behind, Nat.reduceAdd, Int.reduceLT, Int.reduceLE, Int.reduceToNat, Nat.reduceLT, Nat.reduceLeDiff, Nat.reduceEqDiff, Int.reduceAbs, Int.reduceAdd, Int.reduceEq, Int.reduceNeg, Int.reduceSub, Int.reduceMul, Nat.reduceSub, Int.cast_ofNat_Int, Int.natCast_zero, Int.natCast_one])
    exact ⟨_, _, rfl, fun k => below_cellQ, fun k => below_ints, h _ _ hc ⟨_, _, rfl⟩⟩
theorem datR_posL {n k : Nat} {c : Nat → Int} : DatR st (k + 1) (.lst (posL n c)) := datR_lstL fun x _ => datR_int
/-- what is no count's colour -/
theorem odd_values {n : Nat} {x : D} (h : x ∈ ([.non, .int (-1), .int (n : Nat), .bl true, .str "0", .tup [.int 0], .lst [.int 0], .dct []] : List D)) {c : Nat → Int} {P : D → Sto → Prop} : W (g_Jar_uucontainsuu A [jarD A n c, x]) st P = P (.bl false) st := by
  simp only [List.mem_cons, List.not_mem_nil, or_false] at h
  rcases h with rfl | rfl | rfl | rfl | rfl | rfl | rfl | rfl
  · exact jar_in_no is_int_n
  · rw [jar_in]
    rfl
  · rw [jar_in]
    unfold inB
    rw [decide_eq_false (show ¬ ((0 : Int) ≤ (n : Nat) ∧ ((n : Nat) : Int) < n) by omega), Bool.false_and]
  · exact jar_in_no is_int_b
  · exact jar_in_no is_int_s
  · exact jar_in_no is_int_t
  · exact jar_in_no is_int_l
  · exact jar_in_no is_int_d
theorem eight_le : ((8 : Nat) ≤ sizeLine) = True := eq_true (by decide)
theorem check_ok {n : Nat} {c : Nat → Int} (hn : n ≤ 8) (hc : ∀ i, i < n → 0 ≤ c i) {P : D → Sto → Prop} : W (g_ulaw_check A [jarD A n c, intsD n c, .int (n : Nat)]) st P = P (.bl true) st := callE rfl (by
  unfold b_ulaw_check
  have hl : n ≤ sizeLine := line_le (by omega)
  have r1 : ∀ {s : Sto} {P : List D → Sto → Prop}, W (rng1 [.int (n : Nat)]) s P = P (mapR n fun i => .int (i : Nat)) s := w_r1 (by omega)
  have L : ∀ {s : Sto} {P : List D → Sto → Prop}, W (lcM (gN 3) (eB (eOp2 gtD (eOp2 ixD (eVar 1) (eVar 3)) (eC (.int 0)))) (eVar 3) [some (jarD A n c), some (intsD n c), some (.int (n : Nat)), none, none] (mapR n fun i => .int (i : Nat))) s P = P (posL n c) s := lcF fun i hi => by simp only [w_bind, w_pure, w_var, w_c, w_op2, w_nil, w_cons, w_tup, w_lst, w_newL, w_sub, w_add, w_mod, w_divE, w_powE, w_mulE, w_cmp, w_bD, w_eB, w_eTru, w_truB, w_ch, w_tand, w_tor, w_tnot, w_and, w_or, w_not, DL.w_next, w_ret, w_sif, w_expr, w_gN, w_asg, w_eCall, w_seq, goOn_nx, goOn_rt, w_lc, w_lcN, w_iR1, w_iR2, w_iSq, w_seqL, w_seqT, w_lenT, w_lenL, w_lenF, w_max, w_min, w_gSub, w_for, w_isi, w_if, w_tupleL, w_tupleT, w_listL, w_listT, w_listNT, w_listNL, w_neg, w_negI, w_eListR1, w_iZpA, w_iZp3A, w_iEnA, w_zpTT, w_zpTL, w_zpLT, w_zpLL, w_enAL, w_enAT, w_isN, w_isT, w_nisT, w_isB, w_nisB, w_isI, w_nisI, w_isL, w_nisL, w_gT2, w_gT3, w_intB, w_intI, w_eMake, w_fld1, w_prop1, w_meth1, w_sub1, w_or2a1, w_own, w_inO, w_eIf, w_eqI, w_neI, w_eqB, w_neB, isi_int_int, isi_int_bl, isi_int_non, isi_int_str, isi_int_lst, isi_int_tup, isi_int_dct, isi_bool_int, isi_bool_bl, isi_bool_non, isi_bool_str, isi_bool_lst, isi_bool_tup, isi_bool_dct, isi_str_int, isi_str_bl, isi_str_non, isi_str_str, isi_str_lst, isi_str_tup, isi_str_dct, isi_list_int, isi_list_bl, isi_list_non, isi_list_str, isi_list_lst, isi_list_tup, isi_list_dct, isi_tuple_int, isi_tuple_bl, isi_tuple_non, isi_tuple_str, isi_tuple_lst, isi_tuple_tup, isi_tuple_dct, isi_dict_int, isi_dict_bl, isi_dict_non, isi_dict_str, isi_dict_lst, isi_dict_tup, isi_dict_dct, isi_lt_int, isi_o_int, isi_lt_bl, isi_o_bl, isi_lt_non, isi_o_non, isi_lt_str, isi_o_str, isi_lt_lst, isi_o_lst, isi_lt_tup, isi_o_tup, isi_lt_dct, isi_o_dct, isi_own, mapR_len, rngD_length, enumD_mapR, zip_mapR, zip3_mapR, rng0, rngA, List.length_map, startD, wipeD, List.map_cons, List.map_nil, List.length_cons, List.length_nil, List.replicate, List.cons_append, List.nil_append, List.append_nil, List.getElem?_cons_zero, List.getElem?_cons_succ, List.set_cons_succ, List.set_cons_zero, Bool.not_true, Bool.not_false, if_true, if_false, Bool.false_eq_true, decide_true, decide_false, true_and, and_true, and_self, and_imp, Int.zero_add, le2, le3, le4, le1, le0, Nat.sub_zero, Bool.true_and, Bool.and_true, Bool.false_and, Bool.and_false, Bool.true_or, Bool.false_or, Bool.or_false, Bool.or_true, beq_self_eq_true, not_true_eq_false, not_false_eq_true, decide_eq_true_eq, fldC1, ofC'1, par2_2, par3_3, w_par2E, w_par3E, w_slD, w_slF, w_eSlice, w_eNoP, w_eP, w_intO, w_gT21, w_zpLLT, w_truO1, w_binO, w_ninO, w_eCM, w_eqLL, w_neLL, w_eqTT, w_neTT, lcY_nil, lcY_cons, w_all2, at2_0, at2_1, at3_0, at3_1, at3_2, at4_0, at4_1, at4_2, at4_3, itm_some, ixLE, ixFE, ixTE, ixO0, setO0, put_some, ix2_0, ix2_1, ix4_0, ix4_1, ix4_2, ix4_3, false_and, and_false, implies_true, w_eClr, w_slAL, w_slAF, w_seqG, w_lenG, w_enAG, w_tupleG, ixGE, isi_lt_G, w_nisN, w_binI, w_eApp, w_eMakeF, isLO_b, ix_b, augIE, w_eMv, w_one, okTg_self, at_behind, set_behind, Nat.reduceAdd, Int.reduceLT, Int.reduceLE, Int.reduceToNat, Nat.reduceLT, Nat.reduceLeDiff, Nat.reduceEqDiff, Int.reduceAbs, Int.reduceAdd, Int.reduceEq, Int.reduceNeg, Int.reduceSub, Int.reduceMul, Nat.reduceSub, Int.cast_ofNat_Int, Int.natCast_zero, Int.natCast_one, mapR_at hi]
  simp only [w_bind, w_pure, w_var, w_c, w_op2, w_nil, w_cons, w_tup, w_lst, w_newL, w_sub, w_add, w_mod, w_divE, w_powE, w_mulE, w_cmp, w_bD, w_eB, w_eTru, w_truB, w_ch, w_tand, w_tor, w_tnot, w_and, w_or, w_not, DL.w_next, w_ret, w_sif, w_expr, w_gN, w_asg, w_eCall, w_seq, goOn_nx, goOn_rt, w_lc, w_lcN, w_iR1, w_iR2, w_iSq, w_seqL, w_seqT, w_lenT, w_lenL, w_lenF, w_max, w_min, w_gSub, w_for, w_isi, w_if, w_tupleL, w_tupleT, w_listL, w_listT, w_listNT, w_listNL, w_neg, w_negI, w_eListR1, w_iZpA, w_iZp3A, w_iEnA, w_zpTT, w_zpTL, w_zpLT, w_zpLL, w_enAL, w_enAT, w_isN, w_isT, w_nisT, w_isB, w_nisB, w_isI, w_nisI, w_isL, w_nisL, w_gT2, w_gT3, w_intB, w_intI, w_eMake, w_fld1, w_prop1, w_meth1, w_sub1, w_or2a1, w_own, w_inO, w_eIf, w_eqI, w_neI, w_eqB, w_neB, isi_int_int, isi_int_bl, isi_int_non, isi_int_str, isi_int_lst, isi_int_tup, isi_int_dct, isi_bool_int, isi_bool_bl, isi_bool_non, isi_bool_str, isi_bool_lst, isi_bool_tup, isi_bool_dct, isi_str_int, isi_str_bl, isi_str_non, isi_str_str, isi_str_lst, isi_str_tup, isi_str_dct, isi_list_int, isi_list_bl, isi_list_non, isi_list_str, isi_list_lst, isi_list_tup, isi_list_dct, isi_tuple_int, isi_tuple_bl, isi_tuple_non, isi_tuple_str, isi_tuple_lst, isi_tuple_tup, isi_tuple_dct, isi_dict_int, isi_dict_bl, isi_dict_non, isi_dict_str, isi_dict_lst, isi_dict_tup, isi_dict_dct, isi_lt_int, isi_o_int, isi_lt_bl, isi_o_bl, isi_lt_non, isi_o_non, isi_lt_str, isi_o_str, isi_lt_lst, isi_o_lst, isi_lt_tup, isi_o_tup, isi_lt_dct, isi_o_dct, isi_own, mapR_len, rngD_length, enumD_mapR, zip_mapR, zip3_mapR, rng0, rngA, List.length_map, startD, wipeD, List.map_cons, List.map_nil, List.length_cons, List.length_nil, List.replicate, List.cons_append, List.nil_append, List.append_nil, List.getElem?_cons_zero, List.getElem?_cons_succ, List.set_cons_succ, List.set_cons_zero, Bool.not_true, Bool.not_false, if_true, if_false, Bool.false_eq_true, decide_true, decide_false, true_and, and_true, and_self, and_imp, Int.zero_add, le2, le3, le4, le1, le0, Nat.sub_zero, Bool.true_and, Bool.and_true, Bool.false_and, Bool.and_false, Bool.true_or, Bool.false_or, Bool.or_false, Bool.or_true, beq_self_eq_true, not_true_eq_false, not_false_eq_true, decide_eq_true_eq, fldC1, ofC'1, par2_2, par3_3, w_par2E, w_par3E, w_slD, w_slF, w_eSlice, w_eNoP, w_eP, w_intO, w_gT21, w_zpLLT, w_truO1, w_binO, w_ninO, w_eCM, w_eqLL, w_neLL, w_eqTT, w_neTT, lcY_nil, lcY_cons, w_all2, at2_0, at2_1, at3_0, at3_1, at3_2, at4_0, at4_1, at4_2, at4_3, itm_some, ixLE, ixFE, ixTE, ixO0, setO0, put_some, ix2_0, ix2_1, ix4_0, ix4_1, ix4_2, ix4_3, false_and, and_false, implies_true, w_eClr, w_slAL, w_slAF, w_seqG, w_lenG, w_enAG, w_tupleG, ixGE, isi_lt_G, w_nisN, w_binI, w_eApp, w_eMakeF, isLO_b, ix_b, augIE, w_eMv, w_one, okTg_self, at_behind, set_behind, Nat.reduceAdd, Int.reduceLT, Int.reduceLE, Int.reduceToNat, Nat.reduceLT, Nat.reduceLeDiff, Nat.reduceEqDiff, Int.reduceAbs, Int.reduceAdd, Int.reduceEq, Int.reduceNeg, Int.reduceSub, Int.reduceMul, Nat.reduceSub, Int.cast_ofNat_Int, Int.natCast_zero, Int.natCast_one, jar_size, jar_total, w_sumL, jar_counts, ofC1 (m := "counts") (f := "amounts") (by decide), ofC1 (m := "colours") (f := "amounts") (by decide), w_bolO jar_bool, any_sum n hc, jar_colours hn, r1, hl, L, w_neS datR_posL]
  refine forRj 3 none rfl (fun _ => rfl) (fun i o hi ho => ?_) (fun o ho => ?_)
  · (try simp only [w_bind, w_pure, w_var, w_c, w_op2, w_nil, w_cons, w_tup, w_lst, w_newL, w_sub, w_add, w_mod, w_divE, w_powE, w_mulE, w_cmp, w_bD, w_eB, w_eTru, w_truB, w_ch, w_tand, w_tor, w_tnot, w_and, w_or, w_not, DL.w_next, w_ret, w_sif, w_expr, w_gN, w_asg, w_eCall, w_seq, goOn_nx, goOn_rt, w_lc, w_lcN, w_iR1, w_iR2, w_iSq, w_seqL, w_seqT, w_lenT, w_lenL, w_lenF, w_max, w_min, w_gSub, w_for, w_isi, w_if, w_tupleL, w_tupleT, w_listL, w_listT, w_listNT, w_listNL, w_neg, w_negI, w_eListR1, w_iZpA, w_iZp3A, w_iEnA, w_zpTT, w_zpTL, w_zpLT, w_zpLL, w_enAL, w_enAT, w_isN, w_isT, w_nisT, w_isB, w_nisB, w_isI, w_nisI, w_isL, w_nisL, w_gT2, w_gT3, w_intB, w_intI, w_eMake, w_fld1, w_prop1, w_meth1, w_sub1, w_or2a1, w_own, w_inO, w_eIf, w_eqI, w_neI, w_eqB, w_neB, isi_int_int, isi_int_bl, isi_int_non, isi_int_str, isi_int_lst, isi_int_tup, isi_int_dct, isi_bool_int, isi_bool_bl, isi_bool_non, isi_bool_str, isi_bool_lst, isi_bool_tup, isi_bool_dct, isi_str_int, isi_str_bl, isi_str_non, isi_str_str, isi_str_lst, isi_str_tup, isi_str_dct, isi_list_int, isi_list_bl, isi_list_non, isi_list_str, isi_list_lst, isi_list_tup, isi_list_dct, isi_tuple_int, isi_tuple_bl, isi_tuple_non, isi_tuple_str, isi_tuple_lst, isi_tuple_tup, isi_tuple_dct, isi_dict_int, isi_dict_bl, isi_dict_non, isi_dict_str, isi_dict_lst, isi_dict_tup, isi_dict_dct, isi_lt_int, isi_o_int, isi_lt_bl, isi_o_bl, isi_lt_non, isi_o_non, isi_lt_str, isi_o_str, isi_lt_lst, isi_o_lst, isi_lt_tup, isi_o_tup, isi_lt_dct, isi_o_dct, isi_own, mapR_len, rngD_length, enumD_mapR, zip_mapR, zip3_mapR, rng0, rngA, List.length_map, startD, wipeD, List.map_cons, List.map_nil, List.length_cons, List.length_nil, List.replicate, List.cons_append, List.nil_append, List.append_nil, List.getElem?_cons_zero, List.getElem?_cons_succ, List.set_cons_succ, List.set_cons_zero, Bool.not_true, Bool.not_false, if_true, if_false, Bool.false_eq_true, decide_true, decide_false, true_and, and_true, and_self, and_imp, Int.zero_add, le2, le3, le4, le1, le0, Nat.sub_zero, Bool.true_and, Bool.and_true, Bool.false_and, Bool.and_false, Bool.true_or, Bool.false_or, Bool.or_false, Bool.or_true, beq_self_eq_true, not_true_eq_false, not_false_eq_true, decide_eq_true_eq, fldC1, ofC'1, par2_2, par3_3, w_par2E, w_par3E, w_slD, w_slF, w_eSlice, w_eNoP, w_eP, w_intO, w_gT21, w_zpLLT, w_truO1, w_binO, w_ninO, w_eCM, w_eqLL, w_neLL, w_eqTT, w_neTT, lcY_nil, lcY_cons, w_all2, at2_0, at2_1, at3_0, at3_1, at3_2, at4_0, at4_1, at4_2, at4_3, itm_some, ixLE, ixFE, ixTE, ixO0, setO0, put_some, ix2_0, ix2_1, ix4_0, ix4_1, ix4_2, ix4_3, false_and, and_false, implies_true, w_eClr, w_slAL, w_slAF, w_seqG, w_lenG, w_enAG, w_tupleG, ixGE, isi_lt_G, w_nisN, w_binI, w_eApp, w_eMakeF, isLO_b, ix_b, augIE, w_eMv, w_one, okTg_self, at_behind, set_behind, Nat.reduceAdd, Int.reduceLT, Int.reduceLE, Int.reduceToNat, Nat.reduceLT, Nat.reduceLeDiff, Nat.reduceEqDiff, Int.reduceAbs, Int.reduceAdd, Int.reduceEq, Int.reduceNeg, Int.reduceSub, Int.reduceMul, Nat.reduceSub, Int.cast_ofNat_Int, Int.natCast_zero, Int.natCast_one])
    refine w_scopeP ?_
    (try simp only [w_bind, w_pure, w_var, w_c, w_op2, w_nil, w_cons, w_tup, w_lst, w_newL, w_sub, w_add, w_mod, w_divE, w_powE, w_mulE, w_cmp, w_bD, w_eB, w_eTru, w_truB, w_ch, w_tand, w_tor, w_tnot, w_and, w_or, w_not, DL.w_next, w_ret, w_sif, w_expr, w_gN, w_asg, w_eCall, w_seq, goOn_nx, goOn_rt, w_lc, w_lcN, w_iR1, w_iR2, w_iSq, w_seqL, w_seqT, w_lenT, w_lenL, w_lenF, w_max, w_min, w_gSub, w_for, w_isi, w_if, w_tupleL, w_tupleT, w_listL, w_listT, w_listNT, w_listNL, w_neg, w_negI, w_eListR1, w_iZpA, w_iZp3A, w_iEnA, w_zpTT, w_zpTL, w_zpLT, w_zpLL, w_enAL, w_enAT, w_isN, w_isT, w_nisT, w_isB, w_nisB, w_isI, w_nisI, w_isL, w_nisL, w_gT2, w_gT3, w_intB, w_intI, w_eMake, w_fld1, w_prop1, w_meth1, w_sub1, w_or2a1, w_own, w_inO, w_eIf, w_eqI, w_neI, w_eqB, w_neB, isi_int_int, isi_int_bl, isi_int_non, isi_int_str, isi_int_lst, isi_int_tup, isi_int_dct, isi_bool_int, isi_bool_bl, isi_bool_non, isi_bool_str, isi_bool_lst, isi_bool_tup, isi_bool_dct, isi_str_int, isi_str_bl, isi_str_non, isi_str_str, isi_str_lst, isi_str_tup, isi_str_dct, isi_list_int, isi_list_bl, isi_list_non, isi_list_str, isi_list_lst, isi_list_tup, isi_list_dct, isi_tuple_int, isi_tuple_bl, isi_tuple_non, isi_tuple_str, isi_tuple_lst, isi_tuple_tup, isi_tuple_dct, isi_dict_int, isi_dict_bl, isi_dict_non, isi_dict_str, isi_dict_lst, isi_dict_tup, isi_dict_dct, isi_lt_int, isi_o_int, isi_lt_bl, isi_o_bl, isi_lt_non, isi_o_non, isi_lt_str, isi_o_str, isi_lt_lst, isi_o_lst, isi_lt_tup, isi_o_tup, isi_lt_dct, isi_o_dct, isi_own, mapR_len, rngD_length, enumD_mapR, zip_mapR, zip3_mapR, rng0, rngA, List.length_map, startD, wipeD, List.map_cons, List.map_nil, List.length_cons, List.length_nil, List.replicate, List.cons_append, List.nil_append, List.append_nil, List.getElem?_cons_zero, List.getElem?_cons_succ, List.set_cons_succ, List.set_cons_zero, Bool.not_true, Bool.not_false, if_true, if_false, Bool.false_eq_true, decide_true, decide_false, true_and, and_true, and_self, and_imp, Int.zero_add, le2, le3, le4, le1, le0, Nat.sub_zero, Bool.true_and, Bool.and_true, Bool.false_and, Bool.and_false, Bool.true_or, Bool.false_or, Bool.or_false, Bool.or_true, beq_self_eq_true, not_true_eq_false, not_false_eq_true, decide_eq_true_eq, fldC1, ofC'1, par2_2, par3_3, w_par2E, w_par3E, w_slD, w_slF, w_eSlice, w_eNoP, w_eP, w_intO, w_gT21, w_zpLLT, w_truO1, w_binO, w_ninO, w_eCM, w_eqLL, w_neLL, w_eqTT, w_neTT, lcY_nil, lcY_cons, w_all2, at2_0, at2_1, at3_0, at3_1, at3_2, at4_0, at4_1, at4_2, at4_3, itm_some, ixLE, ixFE, ixTE, ixO0, setO0, put_some, ix2_0, ix2_1, ix4_0, ix4_1, ix4_2, ix4_3, false_and, and_false, implies_true, w_eClr, w_slAL, w_slAF, w_seqG, w_lenG, w_enAG, w_tupleG, ixGE, isi_lt_G, w_nisN, w_binI, w_eApp, w_eMakeF, isLO_b, ix_b, augIE, w_eMv, w_one, okTg_self, at_behind, set_behind, Nat.reduceAdd, Int.reduceLT, Int.reduceLE, Int.reduceToNat, Nat.reduceLT, Nat.reduceLeDiff, Nat.reduceEqDiff, Int.reduceAbs, Int.reduceAdd, Int.reduceEq, Int.reduceNeg, Int.reduceSub, Int.reduceMul, Nat.reduceSub, Int.cast_ofNat_Int, Int.natCast_zero, Int.natCast_one, jar_get hi, mapR_at hi, jar_in_nat hi])
    exact ⟨by simp only [unsetAll, belowE, List.set_cons_succ, List.set_cons_zero, List.all_cons, List.all_nil, belowO_some, belowO_none, belowD_G, belowD, belowDs, belowFs, belowC, belowDs_mapR, belowDs_map', belowDs_app', Bool.and_true, Bool.and_self, Bool.true_and, all_true', List.length_nil, List.length_cons, List.length_append, Nat.reduceAdd, Nat.reduceLT, decide_true, Nat.zero_lt_succ, Nat.lt_add_one, and_true, true_and], _, rfl, fun _ => rfl⟩
  · (try simp only [w_bind, w_pure, w_var, w_c, w_op2, w_nil, w_cons, w_tup, w_lst, w_newL, w_sub, w_add, w_mod, w_divE, w_powE, w_mulE, w_cmp, w_bD, w_eB, w_eTru, w_truB, w_ch, w_tand, w_tor, w_tnot, w_and, w_or, w_not, DL.w_next, w_ret, w_sif, w_expr, w_gN, w_asg, w_eCall, w_seq, goOn_nx, goOn_rt, w_lc, w_lcN, w_iR1, w_iR2, w_iSq, w_seqL, w_seqT, w_lenT, w_lenL, w_lenF, w_max, w_min, w_gSub, w_for, w_isi, w_if, w_tupleL, w_tupleT, w_listL, w_listT, w_listNT, w_listNL, w_neg, w_negI, w_eListR1, w_iZpA, w_iZp3A, w_iEnA, w_zpTT, w_zpTL, w_zpLT, w_zpLL, w_enAL, w_enAT, w_isN, w_isT, w_nisT, w_isB, w_nisB, w_isI, w_nisI, w_isL, w_nisL, w_gT2, w_gT3, w_intB, w_intI, w_eMake, w_fld1, w_prop1, w_meth1, w_sub1, w_or2a1, w_own, w_inO, w_eIf, w_eqI, w_neI, w_eqB, w_neB, isi_int_int, isi_int_bl, isi_int_non, isi_int_str, isi_int_lst, isi_int_tup, isi_int_dct, isi_bool_int, isi_bool_bl, isi_bool_non, isi_bool_str, isi_bool_lst, isi_bool_tup, isi_bool_dct, isi_str_int, isi_str_bl, isi_str_non, isi_str_str, isi_str_lst, isi_str_tup, isi_str_dct, isi_list_int, isi_list_bl, isi_list_non, isi_list_str, isi_list_lst, isi_list_tup, isi_list_dct, isi_tuple_int, isi_tuple_bl, isi_tuple_non, isi_tuple_str, isi_tuple_lst, isi_tuple_tup, isi_tuple_dct, isi_dict_int, isi_dict_bl, isi_dict_non, isi_dict_str, isi_dict_lst, isi_dict_tup, isi_dict_dct, isi_lt_int, isi_o_int, isi_lt_bl, isi_o_bl, isi_lt_non, isi_o_non, isi_lt_str, isi_o_str, isi_lt_lst, isi_o_lst, isi_lt_tup, isi_o_tup, isi_lt_dct, isi_o_dct, isi_own, mapR_len, rngD_length, enumD_mapR, zip_mapR, zip3_mapR, rng0, rngA, List.length_map, startD, wipeD, List.map_cons, List.map_nil, List.length_cons, List.length_nil, List.replicate, List.cons_append, List.nil_append, List.append_nil, List.getElem?_cons_zero, List.getElem?_cons_succ, List.set_cons_succ, List.set_cons_zero, Bool.not_true, Bool.not_false, if_true, if_false, Bool.false_eq_true, decide_true, decide_false, true_and, and_true, and_self, and_imp, Int.zero_add, le2, le3, le4, le1, le0, Nat.sub_zero, Bool.true_and, Bool.and_true, Bool.false_and, Bool.and_false, Bool.true_or, Bool.false_or, Bool.or_false, Bool.or_true, beq_self_eq_true, not_true_eq_false, not_false_eq_true, decide_eq_true_eq, fldC1, ofC'1, par2_2, par3_3, w_par2E, w_par3E, w_slD, w_slF, w_eSlice, w_eNoP, w_eP, w_intO, w_gT21, w_zpLLT, w_truO1, w_binO, w_ninO, w_eCM, w_eqLL, w_neLL, w_eqTT, w_neTT, lcY_nil, lcY_cons, w_all2, at2_0, at2_1, at3_0, at3_1, at3_2, at4_0, at4_1, at4_2, at4_3, itm_some, ixLE, ixFE, ixTE, ixO0, setO0, put_some, ix2_0, ix2_1, ix4_0, ix4_1, ix4_2, ix4_3, false_and, and_false, implies_true, w_eClr, w_slAL, w_slAF, w_seqG, w_lenG, w_enAG, w_tupleG, ixGE, isi_lt_G, w_nisN, w_binI, w_eApp, w_eMakeF, isLO_b, ix_b, augIE, w_eMv, w_one, okTg_self, at_behind, set_behind, Nat.reduceAdd, Int.reduceLT, Int.reduceLE, Int.reduceToNat, Nat.reduceLT, Nat.reduceLeDiff, Nat.reduceEqDiff, Int.reduceAbs, Int.reduceAdd, Int.reduceEq, Int.reduceNeg, Int.reduceSub, Int.reduceMul, Nat.reduceSub, Int.cast_ofNat_Int, Int.natCast_zero, Int.natCast_one, eight_le])
    refine forK (fun x hx => ?_) ?_
    · (try simp only [w_bind, w_pure, w_var, w_c, w_op2, w_nil, w_cons, w_tup, w_lst, w_newL, w_sub, w_add, w_mod, w_divE, w_powE, w_mulE, w_cmp, w_bD, w_eB, w_eTru, w_truB, w_ch, w_tand, w_tor, w_tnot, w_and, w_or, w_not, DL.w_next, w_ret, w_sif, w_expr, w_gN, w_asg, w_eCall, w_seq, goOn_nx, goOn_rt, w_lc, w_lcN, w_iR1, w_iR2, w_iSq, w_seqL, w_seqT, w_lenT, w_lenL, w_lenF, w_max, w_min, w_gSub, w_for, w_isi, w_if, w_tupleL, w_tupleT, w_listL, w_listT, w_listNT, w_listNL, w_neg, w_negI, w_eListR1, w_iZpA, w_iZp3A, w_iEnA, w_zpTT, w_zpTL, w_zpLT, w_zpLL, w_enAL, w_enAT, w_isN, w_isT, w_nisT, w_isB, w_nisB, w_isI, w_nisI, w_isL, w_nisL, w_gT2, w_gT3, w_intB, w_intI, w_eMake, w_fld1, w_prop1, w_meth1, w_sub1, w_or2a1, w_own, w_inO, w_eIf, w_eqI, w_neI, w_eqB, w_neB, isi_int_int, isi_int_bl, isi_int_non, isi_int_str, isi_int_lst, isi_int_tup, isi_int_dct, isi_bool_int, isi_bool_bl, isi_bool_non, isi_bool_str, isi_bool_lst, isi_bool_tup, isi_bool_dct, isi_str_int, isi_str_bl, isi_str_non, isi_str_str, isi_str_lst, isi_str_tup, isi_str_dct, isi_list_int, isi_list_bl, isi_list_non, isi_list_str, isi_list_lst, isi_list_tup, isi_list_dct, isi_tuple_int, isi_tuple_bl, isi_tuple_non, isi_tuple_str, isi_tuple_lst, isi_tuple_tup, isi_tuple_dct, isi_dict_int, isi_dict_bl, isi_dict_non, isi_dict_str, isi_dict_lst, isi_dict_tup, isi_dict_dct, isi_lt_int, isi_o_int, isi_lt_bl, isi_o_bl, isi_lt_non, isi_o_non, isi_lt_str, isi_o_str, isi_lt_lst, isi_o_lst, isi_lt_tup, isi_o_tup, isi_lt_dct, isi_o_dct, isi_own, mapR_len, rngD_length, enumD_mapR, zip_mapR, zip3_mapR, rng0, rngA, List.length_map, startD, wipeD, List.map_cons, List.map_nil, List.length_cons, List.length_nil, List.replicate, List.cons_append, List.nil_append, List.append_nil, List.getElem?_cons_zero, List.getElem?_cons_succ, List.set_cons_succ, List.set_cons_zero, Bool.not_true, Bool.not_false, if_true, if_false, Bool.false_eq_true, decide_true, decide_false, true_and, and_true, and_self, and_imp, Int.zero_add, le2, le3, le4, le1, le0, Nat.sub_zero, Bool.true_and, Bool.and_true, Bool.false_and, Bool.and_false, Bool.true_or, Bool.false_or, Bool.or_false, Bool.or_true, beq_self_eq_true, not_true_eq_false, not_false_eq_true, decide_eq_true_eq, fldC1, ofC'1, par2_2, par3_3, w_par2E, w_par3E, w_slD, w_slF, w_eSlice, w_eNoP, w_eP, w_intO, w_gT21, w_zpLLT, w_truO1, w_binO, w_ninO, w_eCM, w_eqLL, w_neLL, w_eqTT, w_neTT, lcY_nil, lcY_cons, w_all2, at2_0, at2_1, at3_0, at3_1, at3_2, at4_0, at4_1, at4_2, at4_3, itm_some, ixLE, ixFE, ixTE, ixO0, setO0, put_some, ix2_0, ix2_1, ix4_0, ix4_1, ix4_2, ix4_3, false_and, and_false, implies_true, w_eClr, w_slAL, w_slAF, w_seqG, w_lenG, w_enAG, w_tupleG, ixGE, isi_lt_G, w_nisN, w_binI, w_eApp, w_eMakeF, isLO_b, ix_b, augIE, w_eMv, w_one, okTg_self, at_behind, set_behind, Nat.reduceAdd, Int.reduceLT, Int.reduceLE, Int.reduceToNat, Nat.reduceLT, Nat.reduceLeDiff, Nat.reduceEqDiff, Int.reduceAbs, Int.reduceAdd, Int.reduceEq, Int.reduceNeg, Int.reduceSub, Int.reduceMul, Nat.reduceSub, Int.cast_ofNat_Int, Int.natCast_zero, Int.natCast_one])
      refine w_scopeP ?_
      (try simp only [w_bind, w_pure, w_var, w_c, w_op2, w_nil, w_cons, w_tup, w_lst, w_newL, w_sub, w_add, w_mod, w_divE, w_powE, w_mulE, w_cmp, w_bD, w_eB, w_eTru, w_truB, w_ch, w_tand, w_tor, w_tnot, w_and, w_or, w_not, DL.w_next, w_ret, w_sif, w_expr, w_gN, w_asg, w_eCall, w_seq, goOn_nx, goOn_rt, w_lc, w_lcN, w_iR1, w_iR2, w_iSq, w_seqL, w_seqT, w_lenT, w_lenL, w_lenF, w_max, w_min, w_gSub, w_for, w_isi, w_if, w_tupleL, w_tupleT, w_listL, w_listT, w_listNT, w_listNL, w_neg, w_negI, w_eListR1, w_iZpA, w_iZp3A, w_iEnA, w_zpTT, w_zpTL, w_zpLT, w_zpLL, w_enAL, w_enAT, w_isN, w_isT, w_nisT, w_isB, w_nisB, w_isI, w_nisI, w_isL, w_nisL, w_gT2, w_gT3, w_intB, w_intI, w_eMake, w_fld1, w_prop1, w_meth1, w_sub1, w_or2a1, w_own, w_inO, w_eIf, w_eqI, w_neI, w_eqB, w_neB, isi_int_int, isi_int_bl, isi_int_non, isi_int_str, isi_int_lst, isi_int_tup, isi_int_dct, isi_bool_int, isi_bool_bl, isi_bool_non, isi_bool_str, isi_bool_lst, isi_bool_tup, isi_bool_dct, isi_str_int, isi_str_bl, isi_str_non, isi_str_str, isi_str_lst, isi_str_tup, isi_str_dct, isi_list_int, isi_list_bl, isi_list_non, isi_list_str, isi_list_lst, isi_list_tup, isi_list_dct, isi_tuple_int, isi_tuple_bl, isi_tuple_non, isi_tuple_str, isi_tuple_lst, isi_tuple_tup, isi_tuple_dct, isi_dict_int, isi_dict_bl, isi_dict_non, isi_dict_str, isi_dict_lst, isi_dict_tup, isi_dict_dct, isi_lt_int, isi_o_int, isi_lt_bl, isi_o_bl, isi_lt_non, isi_o_non, isi_lt_str, isi_o_str, isi_lt_lst, isi_o_lst, isi_lt_tup, isi_o_tup, isi_lt_dct, isi_o_dct, isi_own, mapR_len, rngD_length, enumD_mapR, zip_mapR, zip3_mapR, rng0, rngA, List.length_map, startD, wipeD, List.map_cons, List.map_nil, List.length_cons, List.length_nil, List.replicate, List.cons_append, List.nil_append, List.append_nil, List.getElem?_cons_zero, List.getElem?_cons_succ, List.set_cons_succ, List.set_cons_zero, Bool.not_true, Bool.not_false, if_true, if_false, Bool.false_eq_true, decide_true, decide_false, true_and, and_true, and_self, and_imp, Int.zero_add, le2, le3, le4, le1, le0, Nat.sub_zero, Bool.true_and, Bool.and_true, Bool.false_and, Bool.and_false, Bool.true_or, Bool.false_or, Bool.or_false, Bool.or_true, beq_self_eq_true, not_true_eq_false, not_false_eq_true, decide_eq_true_eq, fldC1, ofC'1, par2_2, par3_3, w_par2E, w_par3E, w_slD, w_slF, w_eSlice, w_eNoP, w_eP, w_intO, w_gT21, w_zpLLT, w_truO1, w_binO, w_ninO, w_eCM, w_eqLL, w_neLL, w_eqTT, w_neTT, lcY_nil, lcY_cons, w_all2, at2_0, at2_1, at3_0, at3_1, at3_2, at4_0, at4_1, at4_2, at4_3, itm_some, ixLE, ixFE, ixTE, ixO0, setO0, put_some, ix2_0, ix2_1, ix4_0, ix4_1, ix4_2, ix4_3, false_and, and_false, implies_true, w_eClr, w_slAL, w_slAF, w_seqG, w_lenG, w_enAG, w_tupleG, ixGE, isi_lt_G, w_nisN, w_binI, w_eApp, w_eMakeF, isLO_b, ix_b, augIE, w_eMv, w_one, okTg_self, at_behind, set_behind, Nat.reduceAdd, Int.reduceLT, Int.reduceLE, Int.reduceToNat, Nat.reduceLT, Nat.reduceLeDiff, Nat.reduceEqDiff, Int.reduceAbs, Int.reduceAdd, Int.reduceEq, Int.reduceNeg, Int.reduceSub, Int.reduceMul, Nat.reduceSub, Int.cast_ofNat_Int, Int.natCast_zero, Int.natCast_one, odd_values hx])
      have hb : ∀ k, belowD k x = true := fun k => by
        simp only [List.mem_cons, List.not_mem_nil, or_false] at hx
        rcases hx with rfl | rfl | rfl | rfl | rfl | rfl | rfl | rfl <;> rfl
      simp only [unsetAll, belowE, List.set_cons_succ, List.set_cons_zero, List.all_cons, List.all_nil, belowO_some, belowO_none, belowD_G, belowD, belowDs, belowFs, belowC, belowDs_mapR, belowDs_map', belowDs_app', Bool.and_true, Bool.and_self, Bool.true_and, all_true', List.length_nil, List.length_cons, List.length_append, Nat.reduceAdd, Nat.reduceLT, decide_true, Nat.zero_lt_succ, Nat.lt_add_one, and_true, true_and, ho, hb]
    · (try simp only [w_bind, w_pure, w_var, w_c, w_op2, w_nil, w_cons, w_tup, w_lst, w_newL, w_sub, w_add, w_mod, w_divE, w_powE, w_mulE, w_cmp, w_bD, w_eB, w_eTru, w_truB, w_ch, w_tand, w_tor, w_tnot, w_and, w_or, w_not, DL.w_next, w_ret, w_sif, w_expr, w_gN, w_asg, w_eCall, w_seq, goOn_nx, goOn_rt, w_lc, w_lcN, w_iR1, w_iR2, w_iSq, w_seqL, w_seqT, w_lenT, w_lenL, w_lenF, w_max, w_min, w_gSub, w_for, w_isi, w_if, w_tupleL, w_tupleT, w_listL, w_listT, w_listNT, w_listNL, w_neg, w_negI, w_eListR1, w_iZpA, w_iZp3A, w_iEnA, w_zpTT, w_zpTL, w_zpLT, w_zpLL, w_enAL, w_enAT, w_isN, w_isT, w_nisT, w_isB, w_nisB, w_isI, w_nisI, w_isL, w_nisL, w_gT2, w_gT3, w_intB, w_intI, w_eMake, w_fld1, w_prop1, w_meth1, w_sub1, w_or2a1, w_own, w_inO, w_eIf, w_eqI, w_neI, w_eqB, w_neB, isi_int_int, isi_int_bl, isi_int_non, isi_int_str, isi_int_lst, isi_int_tup, isi_int_dct, isi_bool_int, isi_bool_bl, isi_bool_non, isi_bool_str, isi_bool_lst, isi_bool_tup, isi_bool_dct, isi_str_int, isi_str_bl, isi_str_non, isi_str_str, isi_str_lst, isi_str_tup, isi_str_dct, isi_list_int, isi_list_bl, isi_list_non, isi_list_str, isi_list_lst, isi_list_tup, isi_list_dct, isi_tuple_int, isi_tuple_bl, isi_tuple_non, isi_tuple_str, isi_tuple_lst, isi_tuple_tup, isi_tuple_dct, isi_dict_int, isi_dict_bl, isi_dict_non, isi_dict_str, isi_dict_lst, isi_dict_tup, isi_dict_dct, isi_lt_int, isi_o_int, isi_lt_bl, isi_o_bl, isi_lt_non, isi_o_non, isi_lt_str, isi_o_str, isi_lt_lst, isi_o_lst, isi_lt_tup, isi_o_tup, isi_lt_dct, isi_o_dct, isi_own, mapR_len, rngD_length, enumD_mapR, zip_mapR, zip3_mapR, rng0, rngA, List.length_map, startD, wipeD, List.map_cons, List.map_nil, List.length_cons, List.length_nil, List.replicate, List.cons_append, List.nil_append, List.append_nil, List.getElem?_cons_zero, List.getElem?_cons_succ, List.set_cons_succ, List.set_cons_zero, Bool.not_true, Bool.not_false, if_true, if_false, Bool.false_eq_true, decide_true, decide_false, true_and, and_true, and_self, and_imp, Int.zero_add, le2, le3, le4, le1, le0, Nat.sub_zero, Bool.true_and, Bool.and_true, Bool.false_and, Bool.and_false, Bool.true_or, Bool.false_or, Bool.or_false, Bool.or_true, beq_self_eq_true, not_true_eq_false, not_false_eq_true, decide_eq_true_eq, fldC1, ofC'1, par2_2, par3_3, w_par2E, w_par3E, w_slD, w_slF, w_eSlice, w_eNoP, w_eP, w_intO, w_gT21, w_zpLLT, w_truO1, w_binO, w_ninO, w_eCM, w_eqLL, w_neLL, w_eqTT, w_neTT, lcY_nil, lcY_cons, w_all2, at2_0, at2_1, at3_0, at3_1, at3_2, at4_0, at4_1, at4_2, at4_3, itm_some, ixLE, ixFE, ixTE, ixO0, setO0, put_some, ix2_0, ix2_1, ix4_0, ix4_1, ix4_2, ix4_3, false_and, and_false, implies_true, w_eClr, w_slAL, w_slAF, w_seqG, w_lenG, w_enAG, w_tupleG, ixGE, isi_lt_G, w_nisN, w_binI, w_eApp, w_eMakeF, isLO_b, ix_b, augIE, w_eMv, w_one, okTg_self, at_behind, set_behind, Nat.reduceAdd, Int.reduceLT, Int.reduceLE, Int.reduceToNat, Nat.reduceLT, Nat.reduceLeDiff, Nat.reduceEqDiff, Int.reduceAbs, Int.reduceAdd, Int.reduceEq, Int.reduceNeg, Int.reduceSub, Int.reduceMul, Nat.reduceSub, Int.cast_ofNat_Int, Int.natCast_zero, Int.natCast_one, belowD]))
theorem const_rep {k : Nat} {i : Nat} : (mapR k fun _ => D.int (i : Nat)) = (List.replicate k i).map fun x => D.int (x : Nat) := by
  unfold mapR
  rw [List.map_const', List.map_replicate, List.length_range]
theorem cnt_app {l l' : List Nat} {i : Nat} : cnt (l ++ l') i = cnt l i + cnt l' i := by
  unfold cnt
  rw [List.count_append]
  omega
theorem cnt_rep {k i j : Nat} : cnt (List.replicate k i) j = if j = i then (k : Int) else 0 := by
  unfold cnt
  rw [List.count_replicate]
  by_cases h : j = i
  · subst h; simp
  · rw [if_neg h, if_neg (by simpa using fun z => h z.symm)]; rfl
theorem beans_ok {n : Nat} {c : Nat → Int} (hn : n ≤ 8) {P : D → Sto → Prop} (h : ∀ l : List Nat, (∀ x ∈ l, x < n) → (∀ i, i < n → cnt l i = c i % 4) → P (lstN l) st) : W (g_ulaw_beans A [intsD n c]) st P := by
  have r1 : ∀ {s : Sto} {P : List D → Sto → Prop}, W (rng1 [.int (n : Nat)]) s P = P (mapR n fun i => .int (i : Nat)) s := w_r1 (by omega)
  refine w_call0 rfl ?_
  unfold b_ulaw_beans
  simp only [w_bind, w_pure, w_var, w_c, w_op2, w_nil, w_cons, w_tup, w_lst, w_newL, w_sub, w_add, w_mod, w_divE, w_powE, w_mulE, w_cmp, w_bD, w_eB, w_eTru, w_truB, w_ch, w_tand, w_tor, w_tnot, w_and, w_or, w_not, DL.w_next, w_ret, w_sif, w_expr, w_gN, w_asg, w_eCall, w_seq, goOn_nx, goOn_rt, w_lc, w_lcN, w_iR1, w_iR2, w_iSq, w_seqL, w_seqT, w_lenT, w_lenL, w_lenF, w_max, w_min, w_gSub, w_for, w_isi, w_if, w_tupleL, w_tupleT, w_listL, w_listT, w_listNT, w_listNL, w_neg, w_negI, w_eListR1, w_iZpA, w_iZp3A, w_iEnA, w_zpTT, w_zpTL, w_zpLT, w_zpLL, w_enAL, w_enAT, w_isN, w_isT, w_nisT, w_isB, w_nisB, w_isI, w_nisI, w_isL, w_nisL, w_gT2, w_gT3, w_intB, w_intI, w_eMake, w_fld1, w_prop1, w_meth1, w_sub1, w_or2a1, w_own, w_inO, w_eIf, w_eqI, w_neI, w_eqB, w_neB, isi_int_int, isi_int_bl, isi_int_non, isi_int_str, isi_int_lst, isi_int_tup, isi_int_dct, isi_bool_int, isi_bool_bl, isi_bool_non, isi_bool_str, isi_bool_lst, isi_bool_tup, isi_bool_dct, isi_str_int, isi_str_bl, isi_str_non, isi_str_str, isi_str_lst, isi_str_tup, isi_str_dct, isi_list_int, isi_list_bl, isi_list_non, isi_list_str, isi_list_lst, isi_list_tup, isi_list_dct, isi_tuple_int, isi_tuple_bl, isi_tuple_non, isi_tuple_str, isi_tuple_lst, isi_tuple_tup, isi_tuple_dct, isi_dict_int, isi_dict_bl, isi_dict_non, isi_dict_str, isi_dict_lst, isi_dict_tup, isi_dict_dct, isi_lt_int, isi_o_int, isi_lt_bl, isi_o_bl, isi_lt_non, isi_o_non, isi_lt_str, isi_o_str, isi_lt_lst, isi_o_lst, isi_lt_tup, isi_o_tup, isi_lt_dct, isi_o_dct, isi_own, mapR_len, rngD_length, enumD_mapR, zip_mapR, zip3_mapR, rng0, rngA, List.length_map, startD, wipeD, List.map_cons, List.map_nil, List.length_cons, List.length_nil, List.replicate, List.cons_append, List.nil_append, List.append_nil, List.getElem?_cons_zero, List.getElem?_cons_succ, List.set_cons_succ, List.set_cons_zero, Bool.not_true, Bool.not_false, if_true, if_false, Bool.false_eq_true, decide_true, decide_false, true_and, and_true, and_self, and_imp, Int.zero_add, le2, le3, le4, le1, le0, Nat.sub_zero, Bool.true_and, Bool.and_true, Bool.false_and, Bool.and_false, Bool.true_or, Bool.false_or, Bool.or_false, Bool.or_true, beq_self_eq_true, not_true_eq_false, not_false_eq_true, decide_eq_true_eq, fldC1, ofC'1, par2_2, par3_3, w_par2E, w_par3E, w_slD, w_slF, w_eSlice, w_eNoP, w_eP, w_intO, w_gT21, w_zpLLT, w_truO1, w_binO, w_ninO, w_eCM, w_eqLL, w_neLL, w_eqTT, w_neTT, lcY_nil, lcY_cons, w_all2, at2_0, at2_1, at3_0, at3_1, at3_2, at4_0, at4_1, at4_2, at4_3, itm_some, ixLE, ixFE, ixTE, ixO0, setO0, put_some, ix2_0, ix2_1, ix4_0, ix4_1, ix4_2, ix4_3, false_and, and_false, implies_true, w_eClr, w_slAL, w_slAF, w_seqG, w_lenG, w_enAG, w_tupleG, ixGE, isi_lt_G, w_nisN, w_binI, w_eApp, w_eMakeF, isLO_b, ix_b, augIE, w_eMv, w_one, okTg_self, at_behind, set_behind, Nat.reduceAdd, Int.reduceLT, Int.reduceLE, Int.reduceToNat, Nat.reduceLT, Nat.reduceLeDiff, Nat.reduceEqDiff, Int.reduceAbs, Int.reduceAdd, Int.reduceEq, Int.reduceNeg, Int.reduceSub, Int.reduceMul, Nat.reduceSub, Int.cast_ofNat_Int, Int.natCast_zero, Int.natCast_one, r1]
  refine forV (fun i δ s => s = st ∧ ∃ l : List Nat, δ = [some (intsD n c), some (lstN l), none] ∧ (∀ x ∈ l, x < i) ∧ (∀ j, j < i → cnt l j = c j % 4) ∧ l.length ≤ 4 * i) (fun i δ s hi I => ?_) (fun δ s I => ?_) ⟨rfl, [], rfl, fun x hx => (by cases hx), fun j hj => absurd hj (Nat.not_lt_zero _), Nat.zero_le _⟩
  · obtain ⟨rfl, l, rfl, h1, h2, h3⟩ := I
    obtain ⟨k, hk⟩ : ∃ k : Nat, c i % 4 = (k : Nat) := ⟨(c i % 4).toNat, by omega⟩
    have hk4 : k < 4 := by omega
    have hlen : (List.map (fun x : Nat => D.int (x : Nat)) (List.replicate k i)).length + (List.map (fun x : Nat => D.int (x : Nat)) l).length ≤ sizeLine := by
      rw [List.length_map, List.length_map, List.length_replicate]
      exact line_le (by omega)
    rw [w_gN]
    refine w_scopeP ?_
    (try simp only [w_bind, w_pure, w_var, w_c, w_op2, w_nil, w_cons, w_tup, w_lst, w_newL, w_sub, w_add, w_mod, w_divE, w_powE, w_mulE, w_cmp, w_bD, w_eB, w_eTru, w_truB, w_ch, w_tand, w_tor, w_tnot, w_and, w_or, w_not, DL.w_next, w_ret, w_sif, w_expr, w_gN, w_asg, w_eCall, w_seq, goOn_nx, goOn_rt, w_lc, w_lcN, w_iR1, w_iR2, w_iSq, w_seqL, w_seqT, w_lenT, w_lenL, w_lenF, w_max, w_min, w_gSub, w_for, w_isi, w_if, w_tupleL, w_tupleT, w_listL, w_listT, w_listNT, w_listNL, w_neg, w_negI, w_eListR1, w_iZpA, w_iZp3A, w_iEnA, w_zpTT, w_zpTL, w_zpLT, w_zpLL, w_enAL, w_enAT, w_isN, w_isT, w_nisT, w_isB, w_nisB, w_isI, w_nisI, w_isL, w_nisL, w_gT2, w_gT3, w_intB, w_intI, w_eMake, w_fld1, w_prop1, w_meth1, w_sub1, w_or2a1, w_own, w_inO, w_eIf, w_eqI, w_neI, w_eqB, w_neB, isi_int_int, isi_int_bl, isi_int_non, isi_int_str, isi_int_lst, isi_int_tup, isi_int_dct, isi_bool_int, isi_bool_bl, isi_bool_non, isi_bool_str, isi_bool_lst, isi_bool_tup, isi_bool_dct, isi_str_int, isi_str_bl, isi_str_non, isi_str_str, isi_str_lst, isi_str_tup, isi_str_dct, isi_list_int, isi_list_bl, isi_list_non, isi_list_str, isi_list_lst, isi_list_tup, isi_list_dct, isi_tuple_int, isi_tuple_bl, isi_tuple_non, isi_tuple_str, isi_tuple_lst, isi_tuple_tup, isi_tuple_dct, isi_dict_int, isi_dict_bl, isi_dict_non, isi_dict_str, isi_dict_lst, isi_dict_tup, isi_dict_dct, isi_lt_int, isi_o_int, isi_lt_bl, isi_o_bl, isi_lt_non, isi_o_non, isi_lt_str, isi_o_str, isi_lt_lst, isi_o_lst, isi_lt_tup, isi_o_tup, isi_lt_dct, isi_o_dct, isi_own, mapR_len, rngD_length, enumD_mapR, zip_mapR, zip3_mapR, rng0, rngA, List.length_map, startD, wipeD, List.map_cons, List.map_nil, List.length_cons, List.length_nil, List.replicate, List.cons_append, List.nil_append, List.append_nil, List.getElem?_cons_zero, List.getElem?_cons_succ, List.set_cons_succ, List.set_cons_zero, Bool.not_true, Bool.not_false, if_true, if_false, Bool.false_eq_true, decide_true, decide_false, true_and, and_true, and_self, and_imp, Int.zero_add, le2, le3, le4, le1, le0, Nat.sub_zero, Bool.true_and, Bool.and_true, Bool.false_and, Bool.and_false, Bool.true_or, Bool.false_or, Bool.or_false, Bool.or_true, beq_self_eq_true, not_true_eq_false, not_false_eq_true, decide_eq_true_eq, fldC1, ofC'1, par2_2, par3_3, w_par2E, w_par3E, w_slD, w_slF, w_eSlice, w_eNoP, w_eP, w_intO, w_gT21, w_zpLLT, w_truO1, w_binO, w_ninO, w_eCM, w_eqLL, w_neLL, w_eqTT, w_neTT, lcY_nil, lcY_cons, w_all2, at2_0, at2_1, at3_0, at3_1, at3_2, at4_0, at4_1, at4_2, at4_3, itm_some, ixLE, ixFE, ixTE, ixO0, setO0, put_some, ix2_0, ix2_1, ix4_0, ix4_1, ix4_2, ix4_3, false_and, and_false, implies_true, w_eClr, w_slAL, w_slAF, w_seqG, w_lenG, w_enAG, w_tupleG, ixGE, isi_lt_G, w_nisN, w_binI, w_eApp, w_eMakeF, isLO_b, ix_b, augIE, w_eMv, w_one, okTg_self, at_behind, set_behind, Nat.reduceAdd, Int.reduceLT, Int.reduceLE, Int.reduceToNat, Nat.reduceLT, Nat.reduceLeDiff, Nat.reduceEqDiff, Int.reduceAbs, Int.reduceAdd, Int.reduceEq, Int.reduceNeg, Int.reduceSub, Int.reduceMul, Nat.reduceSub, Int.cast_ofNat_Int, Int.natCast_zero, Int.natCast_one, mapR_at hi, hk, w_mulL (show k ≤ 1000 by omega), const_rep, w_addLL hlen])
    refine ⟨by simp only [unsetAll, belowE, List.set_cons_succ, List.set_cons_zero, List.all_cons, List.all_nil, belowO_some, belowO_none, belowD_G, belowD, belowDs, belowFs, belowC, belowDs_mapR, belowDs_map', belowDs_app', Bool.and_true, Bool.and_self, Bool.true_and, all_true', List.length_nil, List.length_cons, List.length_append, Nat.reduceAdd, Nat.reduceLT, decide_true, Nat.zero_lt_succ, Nat.lt_add_one, and_true, true_and], List.replicate k i ++ l, by simp [unsetAll], fun x hx => ?_, fun j hj => ?_, ?_⟩
    · rcases List.mem_append.mp hx with q | q
      · rw [(List.mem_replicate.mp q).2]; omega
      · have := h1 x q; omega
    · rw [cnt_app, cnt_rep]
      by_cases q : j = i
      · subst q
        have z : cnt l j = 0 := by
          unfold cnt
          rw [List.count_eq_zero.mpr fun hx => absurd (h1 j hx) (Nat.lt_irrefl _)]
          rfl
        rw [if_pos rfl, z, hk]; omega
      · rw [if_neg q, h2 j (by omega)]; omega
    · rw [List.length_append, List.length_replicate]; omega
  · obtain ⟨rfl, l, rfl, h1, h2, h3⟩ := I
    (try simp only [w_bind, w_pure, w_var, w_c, w_op2, w_nil, w_cons, w_tup, w_lst, w_newL, w_sub, w_add, w_mod, w_divE, w_powE, w_mulE, w_cmp, w_bD, w_eB, w_eTru, w_truB, w_ch, w_tand, w_tor, w_tnot, w_and, w_or, w_not, DL.w_next, w_ret, w_sif, w_expr, w_gN, w_asg, w_eCall, w_seq, goOn_nx, goOn_rt, w_lc, w_lcN, w_iR1, w_iR2, w_iSq, w_seqL, w_seqT, w_lenT, w_lenL, w_lenF, w_max, w_min, w_gSub, w_for, w_isi, w_if, w_tupleL, w_tupleT, w_listL, w_listT, w_listNT, w_listNL, w_neg, w_negI, w_eListR1, w_iZpA, w_iZp3A, w_iEnA, w_zpTT, w_zpTL, w_zpLT, w_zpLL, w_enAL, w_enAT, w_isN, w_isT, w_nisT, w_isB, w_nisB, w_isI, w_nisI, w_isL, w_nisL, w_gT2, w_gT3, w_intB, w_intI, w_eMake, w_fld1, w_prop1, w_meth1, w_sub1, w_or2a1, w_own, w_inO, w_eIf, w_eqI, w_neI, w_eqB, w_neB, isi_int_int, isi_int_bl, isi_int_non, isi_int_str, isi_int_lst, isi_int_tup, isi_int_dct, isi_bool_int, isi_bool_bl, isi_bool_non, isi_bool_str, isi_bool_lst, isi_bool_tup, isi_bool_dct, isi_str_int, isi_str_bl, isi_str_non, isi_str_str, isi_str_lst, isi_str_tup, isi_str_dct, isi_list_int, isi_list_bl, isi_list_non, isi_list_str, isi_list_lst, isi_list_tup, isi_list_dct, isi_tuple_int, isi_tuple_bl, isi_tuple_non, isi_tuple_str, isi_tuple_lst, isi_tuple_tup, isi_tuple_dct, isi_dict_int, isi_dict_bl, isi_dict_non, isi_dict_str, isi_dict_lst, isi_dict_tup, isi_dict_dct, isi_lt_int, isi_o_int, isi_lt_bl, isi_o_bl, isi_lt_non, isi_o_non, isi_lt_str, isi_o_str, isi_lt_lst, isi_o_lst, isi_lt_tup, isi_o_tup, isi_lt_dct, isi_o_dct, isi_own, mapR_len, rngD_length, enumD_mapR, zip_mapR, zip3_mapR, rng0, rngA, List.length_map, startD, wipeD, List.map_cons, List.map_nil, List.length_cons, List.length_nil, List.replicate, List.cons_append, List.nil_append, List.append_nil, List.getElem?_cons_zero, List.getElem?_cons_succ, List.set_cons_succ, List.set_cons_zero, Bool.not_true, Bool.not_false, if_true, if_false, Bool.false_eq_true, decide_true, decide_false, true_and, and_true, and_self, and_imp, Int.zero_add, le2, le3, le4, le1, le0, Nat.sub_zero, Bool.true_and, Bool.and_true, Bool.false_and, Bool.and_false, Bool.true_or, Bool.false_or, Bool.or_false, Bool.or_true, beq_self_eq_true, not_true_eq_false, not_false_eq_true, decide_eq_true_eq, fldC1, ofC'1, par2_2, par3_3, w_par2E, w_par3E, w_slD, w_slF, w_eSlice, w_eNoP, w_eP, w_intO, w_gT21, w_zpLLT, w_truO1, w_binO, w_ninO, w_eCM, w_eqLL, w_neLL, w_eqTT, w_neTT, lcY_nil, lcY_cons, w_all2, at2_0, at2_1, at3_0, at3_1, at3_2, at4_0, at4_1, at4_2, at4_3, itm_some, ixLE, ixFE, ixTE, ixO0, setO0, put_some, ix2_0, ix2_1, ix4_0, ix4_1, ix4_2, ix4_3, false_and, and_false, implies_true, w_eClr, w_slAL, w_slAF, w_seqG, w_lenG, w_enAG, w_tupleG, ixGE, isi_lt_G, w_nisN, w_binI, w_eApp, w_eMakeF, isLO_b, ix_b, augIE, w_eMv, w_one, okTg_self, at_behind, set_behind, Nat.reduceAdd, Int.reduceLT, Int.reduceLE, Int.reduceToNat, Nat.reduceLT, Nat.reduceLeDiff, Nat.reduceEqDiff, Int.reduceAbs, Int.reduceAdd, Int.reduceEq, Int.reduceNeg, Int.reduceSub, Int.reduceMul, Nat.reduceSub, Int.cast_ofNat_Int, Int.natCast_zero, Int.natCast_one])
    exact ⟨below_lstN, h l h1 h2⟩
theorem w_tupleO {j : Nat} {xs : List D} {P : D → Sto → Prop} (h : st[j]? = some (.lst xs)) : W (tupleD [.obj j]) st P = P (.tup xs) st := W.eq (by unfold tupleD asL; simp only [h])
theorem odd_other {n : Nat} {c c' : Nat → Int} {x : D} (h : x ∈ ([.non, .int 5, intsD n c, tupsD n c, .lst [jarD A n c'], .str "jar"] : List D)) : (∃ t, tagD st x = some (.inl t) ∧ t ∈ ["NoneType", "bool", "int", "str", "list", "tuple", "dict"]) ∧ (∀ {s : Sto} {P : D → Sto → Prop}, W (isiD (anO A.C_Jar []) x) s P = P (.bl false) s) ∧ ∀ k, belowD k x = true := by
  simp only [List.mem_cons, List.not_mem_nil, or_false] at h
  rcases h with rfl | rfl | rfl | rfl | rfl | rfl
  · exact ⟨⟨_, rfl, by decide⟩, isi_o_non, fun k => rfl⟩
  · exact ⟨⟨_, rfl, by decide⟩, isi_o_int, fun k => rfl⟩
  · exact ⟨⟨_, rfl, by decide⟩, isi_o_lst, fun k => below_ints⟩
  · exact ⟨⟨_, rfl, by decide⟩, isi_o_tup, fun k => below_tups⟩
  · exact ⟨⟨_, rfl, by decide⟩, isi_o_lst, fun k => by simp only [unsetAll, belowE, List.set_cons_succ, List.set_cons_zero, List.all_cons, List.all_nil, belowO_some, belowO_none, belowD_G, belowD, belowDs, belowFs, belowC, belowDs_mapR, belowDs_map', belowDs_app', Bool.and_true, Bool.and_self, Bool.true_and, all_true', List.length_nil, List.length_cons, List.length_append, Nat.reduceAdd, Nat.reduceLT, decide_true, Nat.zero_lt_succ, Nat.lt_add_one, and_true, true_and]⟩
  · exact ⟨⟨_, rfl, by decide⟩, isi_o_str, fun k => rfl⟩
theorem eqO_no {n : Nat} {c : Nat → Int} {x : D} (h : (∃ t, tagD st x = some (.inl t) ∧ t ∈ ["NoneType", "bool", "int", "str", "list", "tuple", "dict"]) ∧ (∀ {s : Sto} {P : D → Sto → Prop}, W (isiD (anO A.C_Jar []) x) s P = P (.bl false) s) ∧ ∀ k, belowD k x = true) {P : D → Sto → Prop} :
    W (eqOD A.C_Jar (g_Jar_uuequu A) (okTg A.C_Jar) (jarD A n c) x) st P = P (.bl false) st := by
  obtain ⟨⟨t, h1, h2⟩, h3, _⟩ := h
  rw [w_eqOb h1 (by unfold okTg; exact decide_eq_true h2), jar_eq_no h3]
  simp only [w_bind, w_pure, w_var, w_c, w_op2, w_nil, w_cons, w_tup, w_lst, w_newL, w_sub, w_add, w_mod, w_divE, w_powE, w_mulE, w_cmp, w_bD, w_eB, w_eTru, w_truB, w_ch, w_tand, w_tor, w_tnot, w_and, w_or, w_not, DL.w_next, w_ret, w_sif, w_expr, w_gN, w_asg, w_eCall, w_seq, goOn_nx, goOn_rt, w_lc, w_lcN, w_iR1, w_iR2, w_iSq, w_seqL, w_seqT, w_lenT, w_lenL, w_lenF, w_max, w_min, w_gSub, w_for, w_isi, w_if, w_tupleL, w_tupleT, w_listL, w_listT, w_listNT, w_listNL, w_neg, w_negI, w_eListR1, w_iZpA, w_iZp3A, w_iEnA, w_zpTT, w_zpTL, w_zpLT, w_zpLL, w_enAL, w_enAT, w_isN, w_isT, w_nisT, w_isB, w_nisB, w_isI, w_nisI, w_isL, w_nisL, w_gT2, w_gT3, w_intB, w_intI, w_eMake, w_fld1, w_prop1, w_meth1, w_sub1, w_or2a1, w_own, w_inO, w_eIf, w_eqI, w_neI, w_eqB, w_neB, isi_int_int, isi_int_bl, isi_int_non, isi_int_str, isi_int_lst, isi_int_tup, isi_int_dct, isi_bool_int, isi_bool_bl, isi_bool_non, isi_bool_str, isi_bool_lst, isi_bool_tup, isi_bool_dct, isi_str_int, isi_str_bl, isi_str_non, isi_str_str, isi_str_lst, isi_str_tup, isi_str_dct, isi_list_int, isi_list_bl, isi_list_non, isi_list_str, isi_list_lst, isi_list_tup, isi_list_dct, isi_tuple_int, isi_tuple_bl, isi_tuple_non, isi_tuple_str, isi_tuple_lst, isi_tuple_tup, isi_tuple_dct, isi_dict_int, isi_dict_bl, isi_dict_non, isi_dict_str, isi_dict_lst, isi_dict_tup, isi_dict_dct, isi_lt_int, isi_o_int, isi_lt_bl, isi_o_bl, isi_lt_non, isi_o_non, isi_lt_str, isi_o_str, isi_lt_lst, isi_o_lst, isi_lt_tup, isi_o_tup, isi_lt_dct, isi_o_dct, isi_own, mapR_len, rngD_length, enumD_mapR, zip_mapR, zip3_mapR, rng0, rngA, List.length_map, startD, wipeD, List.map_cons, List.map_nil, List.length_cons, List.length_nil, List.replicate, List.cons_append, List.nil_append, List.append_nil, List.getElem?_cons_zero, List.getElem?_cons_succ, List.set_cons_succ, List.set_cons_zero, Bool.not_true, Bool.not_false, if_true, if_false, Bool.false_eq_true, decide_true, decide_false, true_and, and_true, and_self, and_imp, Int.zero_add, le2, le3, le4, le1, le0, Nat.sub_zero, Bool.true_and, Bool.and_true, Bool.false_and, Bool.and_false, Bool.true_or, Bool.false_or, Bool.or_false, Bool.or_true, beq_self_eq_true, not_true_eq_false, not_false_eq_true, decide_eq_true_eq, fldC1, ofC'1, par2_2, par3_3, w_par2E, w_par3E, w_slD, w_slF, w_eSlice, w_eNoP, w_eP, w_intO, w_gT21, w_zpLLT, w_truO1, w_binO, w_ninO, w_eCM, w_eqLL, w_neLL, w_eqTT, w_neTT, lcY_nil, lcY_cons, w_all2, at2_0, at2_1, at3_0, at3_1, at3_2, at4_0, at4_1, at4_2, at4_3, itm_some, ixLE, ixFE, ixTE, ixO0, setO0, put_some, ix2_0, ix2_1, ix4_0, ix4_1, ix4_2, ix4_3, false_and, and_false, implies_true, w_eClr, w_slAL, w_slAF, w_seqG, w_lenG, w_enAG, w_tupleG, ixGE, isi_lt_G, w_nisN, w_binI, w_eApp, w_eMakeF, isLO_b, ix_b, augIE, w_eMv, w_one, okTg_self, at_behind, set_behind, Nat.reduceAdd, Int.reduceLT, Int.reduceLE, Int.reduceToNat, Nat.reduceLT, Nat.reduceLeDiff, Nat.reduceEqDiff, Int.reduceAbs, Int.reduceAdd, Int.reduceEq, Int.reduceNeg, Int.reduceSub, Int.reduceMul, Nat.reduceSub, Int.cast_ofNat_Int, Int.natCast_zero, Int.natCast_one]
theorem neO_no {n : Nat} {c : Nat → Int} {x : D} (h : (∃ t, tagD st x = some (.inl t) ∧ t ∈ ["NoneType", "bool", "int", "str", "list", "tuple", "dict"]) ∧ (∀ {s : Sto} {P : D → Sto → Prop}, W (isiD (anO A.C_Jar []) x) s P = P (.bl false) s) ∧ ∀ k, belowD k x = true) {P : D → Sto → Prop} :
    W (neOD A.C_Jar (g_Jar_uuequu A) (okTg A.C_Jar) (jarD A n c) x) st P = P (.bl true) st := by
  obtain ⟨⟨t, h1, h2⟩, h3, _⟩ := h
  rw [w_neOb h1 (by unfold okTg; exact decide_eq_true h2), jar_eq_no h3]
  simp only [w_bind, w_pure, w_var, w_c, w_op2, w_nil, w_cons, w_tup, w_lst, w_newL, w_sub, w_add, w_mod, w_divE, w_powE, w_mulE, w_cmp, w_bD, w_eB, w_eTru, w_truB, w_ch, w_tand, w_tor, w_tnot, w_and, w_or, w_not, DL.w_next, w_ret, w_sif, w_expr, w_gN, w_asg, w_eCall, w_seq, goOn_nx, goOn_rt, w_lc, w_lcN, w_iR1, w_iR2, w_iSq, w_seqL, w_seqT, w_lenT, w_lenL, w_lenF, w_max, w_min, w_gSub, w_for, w_isi, w_if, w_tupleL, w_tupleT, w_listL, w_listT, w_listNT, w_listNL, w_neg, w_negI, w_eListR1, w_iZpA, w_iZp3A, w_iEnA, w_zpTT, w_zpTL, w_zpLT, w_zpLL, w_enAL, w_enAT, w_isN, w_isT, w_nisT, w_isB, w_nisB, w_isI, w_nisI, w_isL, w_nisL, w_gT2, w_gT3, w_intB, w_intI, w_eMake, w_fld1, w_prop1, w_meth1, w_sub1, w_or2a1, w_own, w_inO, w_eIf, w_eqI, w_neI, w_eqB, w_neB, isi_int_int, isi_int_bl, isi_int_non, isi_int_str, isi_int_lst, isi_int_tup, isi_int_dct, isi_bool_int, isi_bool_bl, isi_bool_non, isi_bool_str, isi_bool_lst, isi_bool_tup, isi_bool_dct, isi_str_int, isi_str_bl, isi_str_non, isi_str_str, isi_str_lst, isi_str_tup, isi_str_dct, isi_list_int, isi_list_bl, isi_list_non, isi_list_str, isi_list_lst, isi_list_tup, isi_list_dct, isi_tuple_int, isi_tuple_bl, isi_tuple_non, isi_tuple_str, isi_tuple_lst, isi_tuple_tup, isi_tuple_dct, isi_dict_int, isi_dict_bl, isi_dict_non, isi_dict_str, isi_dict_lst, isi_dict_tup, isi_dict_dct, isi_lt_int, isi_o_int, isi_lt_bl, isi_o_bl, isi_lt_non, isi_o_non, isi_lt_str, isi_o_str, isi_lt_lst, isi_o_lst, isi_lt_tup, isi_o_tup, isi_lt_dct, isi_o_dct, isi_own, mapR_len, rngD_length, enumD_mapR, zip_mapR, zip3_mapR, rng0, rngA, List.length_map, startD, wipeD, List.map_cons, List.map_nil, List.length_cons, List.length_nil, List.replicate, List.cons_append, List.nil_append, List.append_nil, List.getElem?_cons_zero, List.getElem?_cons_succ, List.set_cons_succ, List.set_cons_zero, Bool.not_true, Bool.not_false, if_true, if_false, Bool.false_eq_true, decide_true, decide_false, true_and, and_true, and_self, and_imp, Int.zero_add, le2, le3, le4, le1, le0, Nat.sub_zero, Bool.true_and, Bool.and_true, Bool.false_and, Bool.and_false, Bool.true_or, Bool.false_or, Bool.or_false, Bool.or_true, beq_self_eq_true, not_true_eq_false, not_false_eq_true, decide_eq_true_eq, fldC1, ofC'1, par2_2, par3_3, w_par2E, w_par3E, w_slD, w_slF, w_eSlice, w_eNoP, w_eP, w_intO, w_gT21, w_zpLLT, w_truO1, w_binO, w_ninO, w_eCM, w_eqLL, w_neLL, w_eqTT, w_neTT, lcY_nil, lcY_cons, w_all2, at2_0, at2_1, at3_0, at3_1, at3_2, at4_0, at4_1, at4_2, at4_3, itm_some, ixLE, ixFE, ixTE, ixO0, setO0, put_some, ix2_0, ix2_1, ix4_0, ix4_1, ix4_2, ix4_3, false_and, and_false, implies_true, w_eClr, w_slAL, w_slAF, w_seqG, w_lenG, w_enAG, w_tupleG, ixGE, isi_lt_G, w_nisN, w_binI, w_eApp, w_eMakeF, isLO_b, ix_b, augIE, w_eMv, w_one, okTg_self, at_behind, set_behind, Nat.reduceAdd, Int.reduceLT, Int.reduceLE, Int.reduceToNat, Nat.reduceLT, Nat.reduceLeDiff, Nat.reduceEqDiff, Int.reduceAbs, Int.reduceAdd, Int.reduceEq, Int.reduceNeg, Int.reduceSub, Int.reduceMul, Nat.reduceSub, Int.cast_ofNat_Int, Int.natCast_zero, Int.natCast_one]
theorem mk_frz {n : Nat} {c : Nat → Int} {d : D} {s : Sto} (hn : n ≤ 8) (hn1 : 1 ≤ n) (hc : ∀ i, i < n → 0 ≤ c i) (hd : (d = .obj 1 ∧ s[1]? = some (.lst (mapR n fun i => .int (c i)))) ∨ d = tupsD n c) {P : D → Sto → Prop} : W (frzM (makeM A.C_Jar (g_Jar_uuinituu A)) [d]) s P = P (jarD A n c) s := by
  have hn' : noL (jarD A n c) = true := by
    unfold jarD
    show (noLs (mapR n fun i => .int (c i)) && true) = true
    rw [noLs_mapR fun i _ => rfl]; rfl
  rcases hd with ⟨rfl, h⟩ | rfl
  · exact frzE (snapO h (below_ints (k := 0))) hn' below_jar (by rw [jar_make hn hn1 hc])
  · exact frzE (snapT (below_tups (k := 0))) hn' below_jar (by rw [jar_makeT hn hn1 hc])
theorem isLO_2 {a b : Cell} {z : List D} {P : Unit → Sto → Prop} : W (isLO (.obj 2)) [a, b, .lst z] P = P () [a, b, .lst z] := isLOE rfl
theorem app_2 {a b : Cell} {z : List D} {d : D} {P : D → Sto → Prop} (h : z.length < sizeLine) : W (appD (.obj 2) d) [a, b, .lst z] P = P .non [a, b, .lst (z ++ [d])] := (appE rfl h).trans rfl
theorem isLO_3 {a b c : Cell} {z : List D} {P : Unit → Sto → Prop} : W (isLO (.obj 3)) [a, b, c, .lst z] P = P () [a, b, c, .lst z] := isLOE rfl
theorem app_3 {a b c : Cell} {z : List D} {d : D} {P : D → Sto → Prop} (h : z.length < sizeLine) : W (appD (.obj 3) d) [a, b, c, .lst z] P = P .non [a, b, c, .lst (z ++ [d])] := (appE rfl h).trans rfl
theorem set_1 {a : Cell} {n : Nat} {x : Nat → D} {d : D} {P : Unit → Sto → Prop} (h : 1 ≤ n) : W (setD (.obj 1) (.int 0) d) [a, .lst (mapR n x)] P = P () [a, .lst ((mapR n x).set 0 d)] := by
  have e : ixN n 0 = some 0 := by unfold ixN; rw [if_pos (by decide), if_pos (by omega)]; rfl
  rw [setOE (xs := mapR n x) rfl, mapR_len, e]
  rfl
theorem posL_len {n : Nat} {c : Nat → Int} : (posL n c).length ≤ n := by
  unfold posL
  rw [List.length_map]
  have := List.length_filter_le (fun i => decide (0 < c i)) (List.range n)
  rw [List.length_range] at this
  exact this
theorem six_le : ((6 : Nat) ≤ sizeLine) = True := eq_true (by decide)
theorem turn_ok {ns : List Int} {i : Nat} (hi : i ≤ 16) {Q : Fl → Sto → Prop} (hQ : Q (.nx [some (.fl (ns.map D.int)), none, none, none, none, none, none, none, none, none, none, none, none, none, none]) []) :
    W ((sScope [1, 2, 3, 4, 5, 6, 7, 8, 9, 10, 11, 12, 13, 14] (sSeq (sAsg (eCall (g_ulaw_poolN1 A) (eCons (eVar 0) (eCons (eVar 1) eNil))) (gN 2)) (sSeq (sAsg (eOp2 addD (eC (.int 1)) (eCall (g_ulaw_draw A) (eCons (eVar 2) (eCons (eC (.int 8)) eNil)))) (gN 3)) (sSeq (sAsg (eTup (eCons (eCall (g_ulaw_counts A) (eCons (eVar 2) (eCons (eVar 3) eNil))) (eCons (eCall (g_ulaw_counts A) (eCons (eVar 2) (eCons (eVar 3) eNil))) (eCons (eCall (g_ulaw_draw A) (eCons (eVar 2) (eCons (eC (.int 5)) eNil))) eNil)))) (gT [(gN 4), (gN 5), (gN 6)])) (sSeq (sAsg (eCall listN (eCons (eVar 4) eNil)) (gN 7)) (sSeq (sAsg (eMakeF A.C_Jar (g_Jar_uuinituu A) (eCons (eIf (eB (eOp2 eqD (eCall (g_ulaw_draw A) (eCons (eVar 2) (eCons (eC (.int 2)) eNil))) (eC (.int 0)))) (eVar 7) (eCall tupleD (eCons (eVar 7) eNil))) eNil)) (gN 8)) (sSeq (sAsg (eC (.int 99)) (gSubD (eVar 7) (eC (.int 0)))) (sSeq (sExpr (eApp (eMeth A.C_Jar "counts" (g_Jar_countsN1 A) (eVar 8) eNil) (eC .non))) (sSeq (sExpr (eApp (eMeth A.C_Jar "colours" (g_Jar_coloursN1 A) (eVar 8) eNil) (eC .non))) (sSeq (sIf (tNotD (eTru (eCall (g_ulaw_check A) (eCons (eVar 8) (eCons (eVar 4) (eCons (eVar 3) eNil)))))) (sRet (eC (.bl false))) sNext) (sSeq (sAsg (eMake A.C_Jar (g_Jar_uuinituu A) (eCons (eVar 5) eNil)) (gN 9)) (sSeq (sIf (eB (eOp2 neD (eMeth A.C_Jar "counts" (g_Jar_counts A) (eOp2 (binOD A.C_Jar (g_Jar_uuadduu A)) (eVar 8) (eVar 9)) eNil) (eLc (iR1 (eCons (eVar 3) eNil)) (gN 13) [13] eYes (eOp2 addD (eOp2 ixD (eVar 4) (eVar 13)) (eOp2 ixD (eVar 5) (eVar 13)))))) (sRet (eC (.bl false))) sNext) (sSeq (sIf (eB (eOp2 (neOD A.C_Jar (g_Jar_uuequu A) (okTg A.C_Jar)) (eOp2 (binOD A.C_Jar (g_Jar_uuadduu A)) (eVar 8) (eVar 9)) (eOp2 (binOD A.C_Jar (g_Jar_uuadduu A)) (eVar 9) (eVar 8)))) (sRet (eC (.bl false))) sNext) (sSeq (sIf (eB (eOp2 (neOD A.C_Jar (g_Jar_uuequu A) (okTg A.C_Jar)) (eOp2 (binOD A.C_Jar (g_Jar_uusubuu A)) (eOp2 (binOD A.C_Jar (g_Jar_uuadduu A)) (eVar 8) (eVar 9)) (eVar 9)) (eVar 8))) (sRet (eC (.bl false))) sNext) (sSeq (sIf (eB (eOp2 neD (eMeth A.C_Jar "counts" (g_Jar_counts A) (eOp2 (binOI A.C_Jar (g_Jar_uumuluu A)) (eVar 8) (eVar 6)) eNil) (eLc (iSq (eVar 4)) (gN 14) [14] eYes (eOp2 mulD (eVar 14) (eVar 6))))) (sRet (eC (.bl false))) sNext) (sSeq (sIf (tOrD (tNotD (eTru (eCall (g_ulaw_check A) (eCons (eVar 8) (eCons (eVar 4) (eCons (eVar 3) eNil)))))) (eB (eOp2 neD (eMeth A.C_Jar "counts" (g_Jar_counts A) (eVar 9) eNil) (eVar 5)))) (sRet (eC (.bl false))) sNext) (sSeq (sIf (tOrD (eB (eOp2 (neOD A.C_Jar (g_Jar_uuequu A) (okTg A.C_Jar)) (eOp2 (binOI A.C_Jar (g_Jar_uumuluu A)) (eVar 8) (eC (.int 0))) (eMake A.C_Jar (g_Jar_uuinituu A) (eCons (eOp2 mulD (eLst (eCons (eC (.int 0)) eNil)) (eVar 3)) eNil)))) (eB (eOp2 (neOD A.C_Jar (g_Jar_uuequu A) (okTg A.C_Jar)) (eOp2 (binOD A.C_Jar (g_Jar_uusubuu A)) (eVar 8) (eVar 8)) (eOp2 (binOI A.C_Jar (g_Jar_uumuluu A)) (eVar 8) (eC (.int 0)))))) (sRet (eC (.bl false))) sNext) (sSeq (sAsg (eCall (g_ulaw_beans A) (eCons (eVar 4) eNil)) (gN 10)) (sSeq (sAsg (eCM A.C_Jar (g_Jar_of_beans A) (eCons (eVar 3) (eCons (eIf (eB (eOp2 eqD (eOp2 modD (eVar 6) (eC (.int 2))) (eC (.int 0)))) (eVar 10) (eCall tupleD (eCons (eVar 10) eNil))) eNil))) (gN 11)) (sSeq (sIf (eB (eOp2 neD (eMeth A.C_Jar "counts" (g_Jar_counts A) (eVar 11) eNil) (eLc (iSq (eVar 4)) (gN 14) [14] eYes (eOp2 modD (eVar 14) (eC (.int 4)))))) (sRet (eC (.bl false))) sNext) (sSeq (sIf (eB (eOp2 neD (eOp2 (eqOD A.C_Jar (g_Jar_uuequu A) (okTg A.C_Jar)) (eVar 8) (eVar 9)) (eOp2 eqD (eVar 4) (eVar 5)))) (sRet (eC (.bl false))) sNext) (sFor (iSq (eLst (eCons (eC .non) (eCons (eC (.int 5)) (eCons (eVar 4) (eCons (eCall tupleD (eCons (eVar 4) eNil)) (eCons (eLst (eCons (eVar 8) eNil)) (eCons (eC (.str "jar")) eNil)))))))) (gN 12) (sScope [12] (sIf (tOrD (eB (eOp2 nisD (eOp2 (eqOD A.C_Jar (g_Jar_uuequu A) (okTg A.C_Jar)) (eVar 8) (eVar 12)) (eC (.bl false)))) (eB (eOp2 nisD (eOp2 (neOD A.C_Jar (g_Jar_uuequu A) (okTg A.C_Jar)) (eVar 8) (eVar 12)) (eC (.bl true))))) (sRet (eC (.bl false))) sNext)))))))))))))))))))))))) [some (.fl (ns.map D.int)), some (.int (i : Nat)), none, none, none, none, none, none, none, none, none, none, none, none, none]) [] Q := by
  have fin : ∀ (x1 x2 x3 x4 x5 x6 x7 x8 x9 x10 x11 x12 x13 x14 : Option D) (s : Sto), TrOk ([] : Sto).length [] s ∧ belowE ([] : Sto).length (unsetAll [some (.fl (ns.map D.int)), x1, x2, x3, x4, x5, x6, x7, x8, x9, x10, x11, x12, x13, x14] [1, 2, 3, 4, 5, 6, 7, 8, 9, 10, 11, 12, 13, 14]) = true ∧ Q (.nx (unsetAll [some (.fl (ns.map D.int)), x1, x2, x3, x4, x5, x6, x7, x8, x9, x10, x11, x12, x13, x14] [1, 2, 3, 4, 5, 6, 7, 8, 9, 10, 11, 12, 13, 14])) (s.take ([] : Sto).length) := fun x1 x2 x3 x4 x5 x6 x7 x8 x9 x10 x11 x12 x13 x14 s => by
    refine ⟨⟨Nat.zero_le _, fun i c hi => absurd hi (Nat.not_lt_zero _)⟩, ?_, hQ⟩
    simp only [unsetAll, belowE, List.set_cons_succ, List.set_cons_zero, List.all_cons, List.all_nil, belowO_some, belowO_none, belowD_G, belowD, belowDs, belowFs, belowC, belowDs_mapR, belowDs_map', belowDs_app', Bool.and_true, Bool.and_self, Bool.true_and, all_true', List.length_nil, List.length_cons, List.length_append, Nat.reduceAdd, Nat.reduceLT, decide_true, Nat.zero_lt_succ, Nat.lt_add_one, and_true, true_and]
  refine w_scope ?_
  simp only [w_bind, w_pure, w_var, w_c, w_op2, w_nil, w_cons, w_tup, w_lst, w_newL, w_sub, w_add, w_mod, w_divE, w_powE, w_mulE, w_cmp, w_bD, w_eB, w_eTru, w_truB, w_ch, w_tand, w_tor, w_tnot, w_and, w_or, w_not, DL.w_next, w_ret, w_sif, w_expr, w_gN, w_asg, w_eCall, w_seq, goOn_nx, goOn_rt, w_lc, w_lcN, w_iR1, w_iR2, w_iSq, w_seqL, w_seqT, w_lenT, w_lenL, w_lenF, w_max, w_min, w_gSub, w_for, w_isi, w_if, w_tupleL, w_tupleT, w_listL, w_listT, w_listNT, w_listNL, w_neg, w_negI, w_eListR1, w_iZpA, w_iZp3A, w_iEnA, w_zpTT, w_zpTL, w_zpLT, w_zpLL, w_enAL, w_enAT, w_isN, w_isT, w_nisT, w_isB, w_nisB, w_isI, w_nisI, w_isL, w_nisL, w_gT2, w_gT3, w_intB, w_intI, w_eMake, w_fld1, w_prop1, w_meth1, w_sub1, w_or2a1, w_own, w_inO, w_eIf, w_eqI, w_neI, w_eqB, w_neB, isi_int_int, isi_int_bl, isi_int_non, isi_int_str, isi_int_lst, isi_int_tup, isi_int_dct, isi_bool_int, isi_bool_bl, isi_bool_non, isi_bool_str, isi_bool_lst, isi_bool_tup, isi_bool_dct, isi_str_int, isi_str_bl, isi_str_non, isi_str_str, isi_str_lst, isi_str_tup, isi_str_dct, isi_list_int, isi_list_bl, isi_list_non, isi_list_str, isi_list_lst, isi_list_tup, isi_list_dct, isi_tuple_int, isi_tuple_bl, isi_tuple_non, isi_tuple_str, isi_tuple_lst, isi_tuple_tup, isi_tuple_dct, isi_dict_int, isi_dict_bl, isi_dict_non, isi_dict_str, isi_dict_lst, isi_dict_tup, isi_dict_dct, isi_lt_int, isi_o_int, isi_lt_bl, isi_o_bl, isi_lt_non, isi_o_non, isi_lt_str, isi_o_str, isi_lt_lst, isi_o_lst, isi_lt_tup, isi_o_tup, isi_lt_dct, isi_o_dct, isi_own, mapR_len, rngD_length, enumD_mapR, zip_mapR, zip3_mapR, rng0, rngA, List.length_map, startD, wipeD, List.map_cons, List.map_nil, List.length_cons, List.length_nil, List.replicate, List.cons_append, List.nil_append, List.append_nil, List.getElem?_cons_zero, List.getElem?_cons_succ, List.set_cons_succ, List.set_cons_zero, Bool.not_true, Bool.not_false, if_true, if_false, Bool.false_eq_true, decide_true, decide_false, true_and, and_true, and_self, and_imp, Int.zero_add, le2, le3, le4, le1, le0, Nat.sub_zero, Bool.true_and, Bool.and_true, Bool.false_and, Bool.and_false, Bool.true_or, Bool.false_or, Bool.or_false, Bool.or_true, beq_self_eq_true, not_true_eq_false, not_false_eq_true, decide_eq_true_eq, fldC1, ofC'1, par2_2, par3_3, w_par2E, w_par3E, w_slD, w_slF, w_eSlice, w_eNoP, w_eP, w_intO, w_gT21, w_zpLLT, w_truO1, w_binO, w_ninO, w_eCM, w_eqLL, w_neLL, w_eqTT, w_neTT, lcY_nil, lcY_cons, w_all2, at2_0, at2_1, at3_0, at3_1, at3_2, at4_0, at4_1, at4_2, at4_3, itm_some, ixLE, ixFE, ixTE, ixO0, setO0, put_some, ix2_0, ix2_1, ix4_0, ix4_1, ix4_2, ix4_3, false_and, and_false, implies_true, w_eClr, w_slAL, w_slAF, w_seqG, w_lenG, w_enAG, w_tupleG, ixGE, isi_lt_G, w_nisN, w_binI, w_eApp, w_eMakeF, isLO_b, ix_b, augIE, w_eMv, w_one, okTg_self, at_behind, set_behind, Nat.reduceAdd, Int.reduceLT, Int.reduceLE, Int.reduceToNat, Nat.reduceLT, Nat.reduceLeDiff, Nat.reduceEqDiff, Int.reduceAbs, Int.reduceAdd, Int.reduceEq, Int.reduceNeg, Int.reduceSub, Int.reduceMul, Nat.reduceSub, Int.cast_ofNat_Int, Int.natCast_zero, Int.natCast_one]
  refine pool_ok hi fun s hJ => ?_
  (try simp only [w_bind, w_pure, w_var, w_c, w_op2, w_nil, w_cons, w_tup, w_lst, w_newL, w_sub, w_add, w_mod, w_divE, w_powE, w_mulE, w_cmp, w_bD, w_eB, w_eTru, w_truB, w_ch, w_tand, w_tor, w_tnot, w_and, w_or, w_not, DL.w_next, w_ret, w_sif, w_expr, w_gN, w_asg, w_eCall, w_seq, goOn_nx, goOn_rt, w_lc, w_lcN, w_iR1, w_iR2, w_iSq, w_seqL, w_seqT, w_lenT, w_lenL, w_lenF, w_max, w_min, w_gSub, w_for, w_isi, w_if, w_tupleL, w_tupleT, w_listL, w_listT, w_listNT, w_listNL, w_neg, w_negI, w_eListR1, w_iZpA, w_iZp3A, w_iEnA, w_zpTT, w_zpTL, w_zpLT, w_zpLL, w_enAL, w_enAT, w_isN, w_isT, w_nisT, w_isB, w_nisB, w_isI, w_nisI, w_isL, w_nisL, w_gT2, w_gT3, w_intB, w_intI, w_eMake, w_fld1, w_prop1, w_meth1, w_sub1, w_or2a1, w_own, w_inO, w_eIf, w_eqI, w_neI, w_eqB, w_neB, isi_int_int, isi_int_bl, isi_int_non, isi_int_str, isi_int_lst, isi_int_tup, isi_int_dct, isi_bool_int, isi_bool_bl, isi_bool_non, isi_bool_str, isi_bool_lst, isi_bool_tup, isi_bool_dct, isi_str_int, isi_str_bl, isi_str_non, isi_str_str, isi_str_lst, isi_str_tup, isi_str_dct, isi_list_int, isi_list_bl, isi_list_non, isi_list_str, isi_list_lst, isi_list_tup, isi_list_dct, isi_tuple_int, isi_tuple_bl, isi_tuple_non, isi_tuple_str, isi_tuple_lst, isi_tuple_tup, isi_tuple_dct, isi_dict_int, isi_dict_bl, isi_dict_non, isi_dict_str, isi_dict_lst, isi_dict_tup, isi_dict_dct, isi_lt_int, isi_o_int, isi_lt_bl, isi_o_bl, isi_lt_non, isi_o_non, isi_lt_str, isi_o_str, isi_lt_lst, isi_o_lst, isi_lt_tup, isi_o_tup, isi_lt_dct, isi_o_dct, isi_own, mapR_len, rngD_length, enumD_mapR, zip_mapR, zip3_mapR, rng0, rngA, List.length_map, startD, wipeD, List.map_cons, List.map_nil, List.length_cons, List.length_nil, List.replicate, List.cons_append, List.nil_append, List.append_nil, List.getElem?_cons_zero, List.getElem?_cons_succ, List.set_cons_succ, List.set_cons_zero, Bool.not_true, Bool.not_false, if_true, if_false, Bool.false_eq_true, decide_true, decide_false, true_and, and_true, and_self, and_imp, Int.zero_add, le2, le3, le4, le1, le0, Nat.sub_zero, Bool.true_and, Bool.and_true, Bool.false_and, Bool.and_false, Bool.true_or, Bool.false_or, Bool.or_false, Bool.or_true, beq_self_eq_true, not_true_eq_false, not_false_eq_true, decide_eq_true_eq, fldC1, ofC'1, par2_2, par3_3, w_par2E, w_par3E, w_slD, w_slF, w_eSlice, w_eNoP, w_eP, w_intO, w_gT21, w_zpLLT, w_truO1, w_binO, w_ninO, w_eCM, w_eqLL, w_neLL, w_eqTT, w_neTT, lcY_nil, lcY_cons, w_all2, at2_0, at2_1, at3_0, at3_1, at3_2, at4_0, at4_1, at4_2, at4_3, itm_some, ixLE, ixFE, ixTE, ixO0, setO0, put_some, ix2_0, ix2_1, ix4_0, ix4_1, ix4_2, ix4_3, false_and, and_false, implies_true, w_eClr, w_slAL, w_slAF, w_seqG, w_lenG, w_enAG, w_tupleG, ixGE, isi_lt_G, w_nisN, w_binI, w_eApp, w_eMakeF, isLO_b, ix_b, augIE, w_eMv, w_one, okTg_self, at_behind, set_behind, Nat.reduceAdd, Int.reduceLT, Int.reduceLE, Int.reduceToNat, Nat.reduceLT, Nat.reduceLeDiff, Nat.reduceEqDiff, Int.reduceAbs, Int.reduceAdd, Int.reduceEq, Int.reduceNeg, Int.reduceSub, Int.reduceMul, Nat.reduceSub, Int.cast_ofNat_Int, Int.natCast_zero, Int.natCast_one])
  refine draw_ok hJ (by decide) (divOk_of (by decide) (by decide)) fun d s a b hJ => ?_
  obtain ⟨n, hn⟩ : ∃ n : Nat, 1 + d = (n : Nat) := ⟨(1 + d).toNat, by omega⟩
  have n1 : 1 ≤ n := by omega
  have n8 : n ≤ 8 := by omega
  have hl : n ≤ sizeLine := line_le (by omega)
  have r1 : ∀ {s : Sto} {P : List D → Sto → Prop}, W (rng1 [.int (n : Nat)]) s P = P (mapR n fun i => .int (i : Nat)) s := w_r1 (by omega)
  (try simp only [w_bind, w_pure, w_var, w_c, w_op2, w_nil, w_cons, w_tup, w_lst, w_newL, w_sub, w_add, w_mod, w_divE, w_powE, w_mulE, w_cmp, w_bD, w_eB, w_eTru, w_truB, w_ch, w_tand, w_tor, w_tnot, w_and, w_or, w_not, DL.w_next, w_ret, w_sif, w_expr, w_gN, w_asg, w_eCall, w_seq, goOn_nx, goOn_rt, w_lc, w_lcN, w_iR1, w_iR2, w_iSq, w_seqL, w_seqT, w_lenT, w_lenL, w_lenF, w_max, w_min, w_gSub, w_for, w_isi, w_if, w_tupleL, w_tupleT, w_listL, w_listT, w_listNT, w_listNL, w_neg, w_negI, w_eListR1, w_iZpA, w_iZp3A, w_iEnA, w_zpTT, w_zpTL, w_zpLT, w_zpLL, w_enAL, w_enAT, w_isN, w_isT, w_nisT, w_isB, w_nisB, w_isI, w_nisI, w_isL, w_nisL, w_gT2, w_gT3, w_intB, w_intI, w_eMake, w_fld1, w_prop1, w_meth1, w_sub1, w_or2a1, w_own, w_inO, w_eIf, w_eqI, w_neI, w_eqB, w_neB, isi_int_int, isi_int_bl, isi_int_non, isi_int_str, isi_int_lst, isi_int_tup, isi_int_dct, isi_bool_int, isi_bool_bl, isi_bool_non, isi_bool_str, isi_bool_lst, isi_bool_tup, isi_bool_dct, isi_str_int, isi_str_bl, isi_str_non, isi_str_str, isi_str_lst, isi_str_tup, isi_str_dct, isi_list_int, isi_list_bl, isi_list_non, isi_list_str, isi_list_lst, isi_list_tup, isi_list_dct, isi_tuple_int, isi_tuple_bl, isi_tuple_non, isi_tuple_str, isi_tuple_lst, isi_tuple_tup, isi_tuple_dct, isi_dict_int, isi_dict_bl, isi_dict_non, isi_dict_str, isi_dict_lst, isi_dict_tup, isi_dict_dct, isi_lt_int, isi_o_int, isi_lt_bl, isi_o_bl, isi_lt_non, isi_o_non, isi_lt_str, isi_o_str, isi_lt_lst, isi_o_lst, isi_lt_tup, isi_o_tup, isi_lt_dct, isi_o_dct, isi_own, mapR_len, rngD_length, enumD_mapR, zip_mapR, zip3_mapR, rng0, rngA, List.length_map, startD, wipeD, List.map_cons, List.map_nil, List.length_cons, List.length_nil, List.replicate, List.cons_append, List.nil_append, List.append_nil, List.getElem?_cons_zero, List.getElem?_cons_succ, List.set_cons_succ, List.set_cons_zero, Bool.not_true, Bool.not_false, if_true, if_false, Bool.false_eq_true, decide_true, decide_false, true_and, and_true, and_self, and_imp, Int.zero_add, le2, le3, le4, le1, le0, Nat.sub_zero, Bool.true_and, Bool.and_true, Bool.false_and, Bool.and_false, Bool.true_or, Bool.false_or, Bool.or_false, Bool.or_true, beq_self_eq_true, not_true_eq_false, not_false_eq_true, decide_eq_true_eq, fldC1, ofC'1, par2_2, par3_3, w_par2E, w_par3E, w_slD, w_slF, w_eSlice, w_eNoP, w_eP, w_intO, w_gT21, w_zpLLT, w_truO1, w_binO, w_ninO, w_eCM, w_eqLL, w_neLL, w_eqTT, w_neTT, lcY_nil, lcY_cons, w_all2, at2_0, at2_1, at3_0, at3_1, at3_2, at4_0, at4_1, at4_2, at4_3, itm_some, ixLE, ixFE, ixTE, ixO0, setO0, put_some, ix2_0, ix2_1, ix4_0, ix4_1, ix4_2, ix4_3, false_and, and_false, implies_true, w_eClr, w_slAL, w_slAF, w_seqG, w_lenG, w_enAG, w_tupleG, ixGE, isi_lt_G, w_nisN, w_binI, w_eApp, w_eMakeF, isLO_b, ix_b, augIE, w_eMv, w_one, okTg_self, at_behind, set_behind, Nat.reduceAdd, Int.reduceLT, Int.reduceLE, Int.reduceToNat, Nat.reduceLT, Nat.reduceLeDiff, Nat.reduceEqDiff, Int.reduceAbs, Int.reduceAdd, Int.reduceEq, Int.reduceNeg, Int.reduceSub, Int.reduceMul, Nat.reduceSub, Int.cast_ofNat_Int, Int.natCast_zero, Int.natCast_one, hn])
  refine counts_ok n8 hJ fun c s hc hJ => ?_
  (try simp only [w_bind, w_pure, w_var, w_c, w_op2, w_nil, w_cons, w_tup, w_lst, w_newL, w_sub, w_add, w_mod, w_divE, w_powE, w_mulE, w_cmp, w_bD, w_eB, w_eTru, w_truB, w_ch, w_tand, w_tor, w_tnot, w_and, w_or, w_not, DL.w_next, w_ret, w_sif, w_expr, w_gN, w_asg, w_eCall, w_seq, goOn_nx, goOn_rt, w_lc, w_lcN, w_iR1, w_iR2, w_iSq, w_seqL, w_seqT, w_lenT, w_lenL, w_lenF, w_max, w_min, w_gSub, w_for, w_isi, w_if, w_tupleL, w_tupleT, w_listL, w_listT, w_listNT, w_listNL, w_neg, w_negI, w_eListR1, w_iZpA, w_iZp3A, w_iEnA, w_zpTT, w_zpTL, w_zpLT, w_zpLL, w_enAL, w_enAT, w_isN, w_isT, w_nisT, w_isB, w_nisB, w_isI, w_nisI, w_isL, w_nisL, w_gT2, w_gT3, w_intB, w_intI, w_eMake, w_fld1, w_prop1, w_meth1, w_sub1, w_or2a1, w_own, w_inO, w_eIf, w_eqI, w_neI, w_eqB, w_neB, isi_int_int, isi_int_bl, isi_int_non, isi_int_str, isi_int_lst, isi_int_tup, isi_int_dct, isi_bool_int, isi_bool_bl, isi_bool_non, isi_bool_str, isi_bool_lst, isi_bool_tup, isi_bool_dct, isi_str_int, isi_str_bl, isi_str_non, isi_str_str, isi_str_lst, isi_str_tup, isi_str_dct, isi_list_int, isi_list_bl, isi_list_non, isi_list_str, isi_list_lst, isi_list_tup, isi_list_dct, isi_tuple_int, isi_tuple_bl, isi_tuple_non, isi_tuple_str, isi_tuple_lst, isi_tuple_tup, isi_tuple_dct, isi_dict_int, isi_dict_bl, isi_dict_non, isi_dict_str, isi_dict_lst, isi_dict_tup, isi_dict_dct, isi_lt_int, isi_o_int, isi_lt_bl, isi_o_bl, isi_lt_non, isi_o_non, isi_lt_str, isi_o_str, isi_lt_lst, isi_o_lst, isi_lt_tup, isi_o_tup, isi_lt_dct, isi_o_dct, isi_own, mapR_len, rngD_length, enumD_mapR, zip_mapR, zip3_mapR, rng0, rngA, List.length_map, startD, wipeD, List.map_cons, List.map_nil, List.length_cons, List.length_nil, List.replicate, List.cons_append, List.nil_append, List.append_nil, List.getElem?_cons_zero, List.getElem?_cons_succ, List.set_cons_succ, List.set_cons_zero, Bool.not_true, Bool.not_false, if_true, if_false, Bool.false_eq_true, decide_true, decide_false, true_and, and_true, and_self, and_imp, Int.zero_add, le2, le3, le4, le1, le0, Nat.sub_zero, Bool.true_and, Bool.and_true, Bool.false_and, Bool.and_false, Bool.true_or, Bool.false_or, Bool.or_false, Bool.or_true, beq_self_eq_true, not_true_eq_false, not_false_eq_true, decide_eq_true_eq, fldC1, ofC'1, par2_2, par3_3, w_par2E, w_par3E, w_slD, w_slF, w_eSlice, w_eNoP, w_eP, w_intO, w_gT21, w_zpLLT, w_truO1, w_binO, w_ninO, w_eCM, w_eqLL, w_neLL, w_eqTT, w_neTT, lcY_nil, lcY_cons, w_all2, at2_0, at2_1, at3_0, at3_1, at3_2, at4_0, at4_1, at4_2, at4_3, itm_some, ixLE, ixFE, ixTE, ixO0, setO0, put_some, ix2_0, ix2_1, ix4_0, ix4_1, ix4_2, ix4_3, false_and, and_false, implies_true, w_eClr, w_slAL, w_slAF, w_seqG, w_lenG, w_enAG, w_tupleG, ixGE, isi_lt_G, w_nisN, w_binI, w_eApp, w_eMakeF, isLO_b, ix_b, augIE, w_eMv, w_one, okTg_self, at_behind, set_behind, Nat.reduceAdd, Int.reduceLT, Int.reduceLE, Int.reduceToNat, Nat.reduceLT, Nat.reduceLeDiff, Nat.reduceEqDiff, Int.reduceAbs, Int.reduceAdd, Int.reduceEq, Int.reduceNeg, Int.reduceSub, Int.reduceMul, Nat.reduceSub, Int.cast_ofNat_Int, Int.natCast_zero, Int.natCast_one])
  refine counts_ok n8 hJ fun c' s hc' hJ => ?_
  (try simp only [w_bind, w_pure, w_var, w_c, w_op2, w_nil, w_cons, w_tup, w_lst, w_newL, w_sub, w_add, w_mod, w_divE, w_powE, w_mulE, w_cmp, w_bD, w_eB, w_eTru, w_truB, w_ch, w_tand, w_tor, w_tnot, w_and, w_or, w_not, DL.w_next, w_ret, w_sif, w_expr, w_gN, w_asg, w_eCall, w_seq, goOn_nx, goOn_rt, w_lc, w_lcN, w_iR1, w_iR2, w_iSq, w_seqL, w_seqT, w_lenT, w_lenL, w_lenF, w_max, w_min, w_gSub, w_for, w_isi, w_if, w_tupleL, w_tupleT, w_listL, w_listT, w_listNT, w_listNL, w_neg, w_negI, w_eListR1, w_iZpA, w_iZp3A, w_iEnA, w_zpTT, w_zpTL, w_zpLT, w_zpLL, w_enAL, w_enAT, w_isN, w_isT, w_nisT, w_isB, w_nisB, w_isI, w_nisI, w_isL, w_nisL, w_gT2, w_gT3, w_intB, w_intI, w_eMake, w_fld1, w_prop1, w_meth1, w_sub1, w_or2a1, w_own, w_inO, w_eIf, w_eqI, w_neI, w_eqB, w_neB, isi_int_int, isi_int_bl, isi_int_non, isi_int_str, isi_int_lst, isi_int_tup, isi_int_dct, isi_bool_int, isi_bool_bl, isi_bool_non, isi_bool_str, isi_bool_lst, isi_bool_tup, isi_bool_dct, isi_str_int, isi_str_bl, isi_str_non, isi_str_str, isi_str_lst, isi_str_tup, isi_str_dct, isi_list_int, isi_list_bl, isi_list_non, isi_list_str, isi_list_lst, isi_list_tup, isi_list_dct, isi_tuple_int, isi_tuple_bl, isi_tuple_non, isi_tuple_str, isi_tuple_lst, isi_tuple_tup, isi_tuple_dct, isi_dict_int, isi_dict_bl, isi_dict_non, isi_dict_str, isi_dict_lst, isi_dict_tup, isi_dict_dct, isi_lt_int, isi_o_int, isi_lt_bl, isi_o_bl, isi_lt_non, isi_o_non, isi_lt_str, isi_o_str, isi_lt_lst, isi_o_lst, isi_lt_tup, isi_o_tup, isi_lt_dct, isi_o_dct, isi_own, mapR_len, rngD_length, enumD_mapR, zip_mapR, zip3_mapR, rng0, rngA, List.length_map, startD, wipeD, List.map_cons, List.map_nil, List.length_cons, List.length_nil, List.replicate, List.cons_append, List.nil_append, List.append_nil, List.getElem?_cons_zero, List.getElem?_cons_succ, List.set_cons_succ, List.set_cons_zero, Bool.not_true, Bool.not_false, if_true, if_false, Bool.false_eq_true, decide_true, decide_false, true_and, and_true, and_self, and_imp, Int.zero_add, le2, le3, le4, le1, le0, Nat.sub_zero, Bool.true_and, Bool.and_true, Bool.false_and, Bool.and_false, Bool.true_or, Bool.false_or, Bool.or_false, Bool.or_true, beq_self_eq_true, not_true_eq_false, not_false_eq_true, decide_eq_true_eq, fldC1, ofC'1, par2_2, par3_3, w_par2E, w_par3E, w_slD, w_slF, w_eSlice, w_eNoP, w_eP, w_intO, w_gT21, w_zpLLT, w_truO1, w_binO, w_ninO, w_eCM, w_eqLL, w_neLL, w_eqTT, w_neTT, lcY_nil, lcY_cons, w_all2, at2_0, at2_1, at3_0, at3_1, at3_2, at4_0, at4_1, at4_2, at4_3, itm_some, ixLE, ixFE, ixTE, ixO0, setO0, put_some, ix2_0, ix2_1, ix4_0, ix4_1, ix4_2, ix4_3, false_and, and_false, implies_true, w_eClr, w_slAL, w_slAF, w_seqG, w_lenG, w_enAG, w_tupleG, ixGE, isi_lt_G, w_nisN, w_binI, w_eApp, w_eMakeF, isLO_b, ix_b, augIE, w_eMv, w_one, okTg_self, at_behind, set_behind, Nat.reduceAdd, Int.reduceLT, Int.reduceLE, Int.reduceToNat, Nat.reduceLT, Nat.reduceLeDiff, Nat.reduceEqDiff, Int.reduceAbs, Int.reduceAdd, Int.reduceEq, Int.reduceNeg, Int.reduceSub, Int.reduceMul, Nat.reduceSub, Int.cast_ofNat_Int, Int.natCast_zero, Int.natCast_one])
  refine draw_ok hJ (by decide) (divOk_of (by decide) (by decide)) fun v s a5 b5 hJ => ?_
  obtain ⟨p1, p2, rfl⟩ := hJ
  (try simp only [w_bind, w_pure, w_var, w_c, w_op2, w_nil, w_cons, w_tup, w_lst, w_newL, w_sub, w_add, w_mod, w_divE, w_powE, w_mulE, w_cmp, w_bD, w_eB, w_eTru, w_truB, w_ch, w_tand, w_tor, w_tnot, w_and, w_or, w_not, DL.w_next, w_ret, w_sif, w_expr, w_gN, w_asg, w_eCall, w_seq, goOn_nx, goOn_rt, w_lc, w_lcN, w_iR1, w_iR2, w_iSq, w_seqL, w_seqT, w_lenT, w_lenL, w_lenF, w_max, w_min, w_gSub, w_for, w_isi, w_if, w_tupleL, w_tupleT, w_listL, w_listT, w_listNT, w_listNL, w_neg, w_negI, w_eListR1, w_iZpA, w_iZp3A, w_iEnA, w_zpTT, w_zpTL, w_zpLT, w_zpLL, w_enAL, w_enAT, w_isN, w_isT, w_nisT, w_isB, w_nisB, w_isI, w_nisI, w_isL, w_nisL, w_gT2, w_gT3, w_intB, w_intI, w_eMake, w_fld1, w_prop1, w_meth1, w_sub1, w_or2a1, w_own, w_inO, w_eIf, w_eqI, w_neI, w_eqB, w_neB, isi_int_int, isi_int_bl, isi_int_non, isi_int_str, isi_int_lst, isi_int_tup, isi_int_dct, isi_bool_int, isi_bool_bl, isi_bool_non, isi_bool_str, isi_bool_lst, isi_bool_tup, isi_bool_dct, isi_str_int, isi_str_bl, isi_str_non, isi_str_str, isi_str_lst, isi_str_tup, isi_str_dct, isi_list_int, isi_list_bl, isi_list_non, isi_list_str, isi_list_lst, isi_list_tup, isi_list_dct, isi_tuple_int, isi_tuple_bl, isi_tuple_non, isi_tuple_str, isi_tuple_lst, isi_tuple_tup, isi_tuple_dct, isi_dict_int, isi_dict_bl, isi_dict_non, isi_dict_str, isi_dict_lst, isi_dict_tup, isi_dict_dct, isi_lt_int, isi_o_int, isi_lt_bl, isi_o_bl, isi_lt_non, isi_o_non, isi_lt_str, isi_o_str, isi_lt_lst, isi_o_lst, isi_lt_tup, isi_o_tup, isi_lt_dct, isi_o_dct, isi_own, mapR_len, rngD_length, enumD_mapR, zip_mapR, zip3_mapR, rng0, rngA, List.length_map, startD, wipeD, List.map_cons, List.map_nil, List.length_cons, List.length_nil, List.replicate, List.cons_append, List.nil_append, List.append_nil, List.getElem?_cons_zero, List.getElem?_cons_succ, List.set_cons_succ, List.set_cons_zero, Bool.not_true, Bool.not_false, if_true, if_false, Bool.false_eq_true, decide_true, decide_false, true_and, and_true, and_self, and_imp, Int.zero_add, le2, le3, le4, le1, le0, Nat.sub_zero, Bool.true_and, Bool.and_true, Bool.false_and, Bool.and_false, Bool.true_or, Bool.false_or, Bool.or_false, Bool.or_true, beq_self_eq_true, not_true_eq_false, not_false_eq_true, decide_eq_true_eq, fldC1, ofC'1, par2_2, par3_3, w_par2E, w_par3E, w_slD, w_slF, w_eSlice, w_eNoP, w_eP, w_intO, w_gT21, w_zpLLT, w_truO1, w_binO, w_ninO, w_eCM, w_eqLL, w_neLL, w_eqTT, w_neTT, lcY_nil, lcY_cons, w_all2, at2_0, at2_1, at3_0, at3_1, at3_2, at4_0, at4_1, at4_2, at4_3, itm_some, ixLE, ixFE, ixTE, ixO0, setO0, put_some, ix2_0, ix2_1, ix4_0, ix4_1, ix4_2, ix4_3, false_and, and_false, implies_true, w_eClr, w_slAL, w_slAF, w_seqG, w_lenG, w_enAG, w_tupleG, ixGE, isi_lt_G, w_nisN, w_binI, w_eApp, w_eMakeF, isLO_b, ix_b, augIE, w_eMv, w_one, okTg_self, at_behind, set_behind, Nat.reduceAdd, Int.reduceLT, Int.reduceLE, Int.reduceToNat, Nat.reduceLT, Nat.reduceLeDiff, Nat.reduceEqDiff, Int.reduceAbs, Int.reduceAdd, Int.reduceEq, Int.reduceNeg, Int.reduceSub, Int.reduceMul, Nat.reduceSub, Int.cast_ofNat_Int, Int.natCast_zero, Int.natCast_one])
  refine draw_ok (R := [.lst (mapR n fun i => .int (c i))]) ⟨p1, p2, rfl⟩ (by decide) (divOk_of (by decide) (by decide)) fun w s a6 b6 hJ => ?_
  obtain ⟨q1, q2, rfl⟩ := hJ
  have l1 : (mapR n fun i => D.int (c i)).length < sizeLine := by rw [mapR_len]; exact Nat.lt_of_lt_of_le (show n < 1000 by omega) (line_le (Nat.le_refl _))
  have l2 : (posL n c).length < sizeLine := Nat.lt_of_le_of_lt posL_len (Nat.lt_of_lt_of_le (show n < 1000 by omega) (line_le (Nat.le_refl _)))
  have e1 : (mapR n fun i => c' i + c i) = mapR n fun i => c i + c' i := mapR_ext fun i _ => Int.add_comm _ _
  have e2 : (mapR n fun i => c i + c' i - c' i) = mapR n c := mapR_ext fun i _ => by omega
  have e3 : (mapR n fun i => c i * 0) = mapR n fun _ => (0 : Int) := mapR_ext fun i _ => Int.mul_zero _
  have e4 : (mapR n fun i => c i - c i) = mapR n fun _ => (0 : Int) := mapR_ext fun i _ => Int.sub_self _
  have mv : ∀ i : Int, mulOk i v := fun i => mulOk_r (by omega) (by omega)
  have hs : ∀ i, i < n → 0 ≤ c i + c' i := fun i hi => Int.add_nonneg (hc i hi) (hc' i hi)
  have cl : ("counts" == ("amounts" : Str)) = false := by decide
  have cl2 : ("colours" == ("amounts" : Str)) = false := by decide
  have e : w = 0 ∨ w = 1 := by omega
  have mk1 : ∀ {P : D → Sto → Prop}, W (frzM (makeM A.C_Jar (g_Jar_uuinituu A)) [.obj 1]) [cellQ q1 q2, .lst (mapR n fun i => .int (c i))] P = P (jarD A n c) [cellQ q1 q2, .lst (mapR n fun i => .int (c i))] := mk_frz n8 n1 hc (.inl ⟨rfl, rfl⟩)
  have mk2 : ∀ {s : Sto} {P : D → Sto → Prop}, W (frzM (makeM A.C_Jar (g_Jar_uuinituu A)) [.tup (mapR n fun i => .int (c i))]) s P = P (jarD A n c) s := mk_frz n8 n1 hc (.inr rfl)
  have tp : ∀ {P : D → Sto → Prop}, W (tupleD [.obj 1]) [cellQ q1 q2, .lst (mapR n fun i => .int (c i))] P = P (.tup (mapR n fun i => .int (c i))) [cellQ q1 q2, .lst (mapR n fun i => .int (c i))] := w_tupleO rfl
  rcases e with rfl | rfl
  all_goals
    (try simp only [w_bind, w_pure, w_var, w_c, w_op2, w_nil, w_cons, w_tup, w_lst, w_newL, w_sub, w_add, w_mod, w_divE, w_powE, w_mulE, w_cmp, w_bD, w_eB, w_eTru, w_truB, w_ch, w_tand, w_tor, w_tnot, w_and, w_or, w_not, DL.w_next, w_ret, w_sif, w_expr, w_gN, w_asg, w_eCall, w_seq, goOn_nx, goOn_rt, w_lc, w_lcN, w_iR1, w_iR2, w_iSq, w_seqL, w_seqT, w_lenT, w_lenL, w_lenF, w_max, w_min, w_gSub, w_for, w_isi, w_if, w_tupleL, w_tupleT, w_listL, w_listT, w_listNT, w_listNL, w_neg, w_negI, w_eListR1, w_iZpA, w_iZp3A, w_iEnA, w_zpTT, w_zpTL, w_zpLT, w_zpLL, w_enAL, w_enAT, w_isN, w_isT, w_nisT, w_isB, w_nisB, w_isI, w_nisI, w_isL, w_nisL, w_gT2, w_gT3, w_intB, w_intI, w_eMake, w_fld1, w_prop1, w_meth1, w_sub1, w_or2a1, w_own, w_inO, w_eIf, w_eqI, w_neI, w_eqB, w_neB, isi_int_int, isi_int_bl, isi_int_non, isi_int_str, isi_int_lst, isi_int_tup, isi_int_dct, isi_bool_int, isi_bool_bl, isi_bool_non, isi_bool_str, isi_bool_lst, isi_bool_tup, isi_bool_dct, isi_str_int, isi_str_bl, isi_str_non, isi_str_str, isi_str_lst, isi_str_tup, isi_str_dct, isi_list_int, isi_list_bl, isi_list_non, isi_list_str, isi_list_lst, isi_list_tup, isi_list_dct, isi_tuple_int, isi_tuple_bl, isi_tuple_non, isi_tuple_str, isi_tuple_lst, isi_tuple_tup, isi_tuple_dct, isi_dict_int, isi_dict_bl, isi_dict_non, isi_dict_str, isi_dict_lst, isi_dict_tup, isi_dict_dct, isi_lt_int, isi_o_int, isi_lt_bl, isi_o_bl, isi_lt_non, isi_o_non, isi_lt_str, isi_o_str, isi_lt_lst, isi_o_lst, isi_lt_tup, isi_o_tup, isi_lt_dct, isi_o_dct, isi_own, mapR_len, rngD_length, enumD_mapR, zip_mapR, zip3_mapR, rng0, rngA, List.length_map, startD, wipeD, List.map_cons, List.map_nil, List.length_cons, List.length_nil, List.replicate, List.cons_append, List.nil_append, List.append_nil, List.getElem?_cons_zero, List.getElem?_cons_succ, List.set_cons_succ, List.set_cons_zero, Bool.not_true, Bool.not_false, if_true, if_false, Bool.false_eq_true, decide_true, decide_false, true_and, and_true, and_self, and_imp, Int.zero_add, le2, le3, le4, le1, le0, Nat.sub_zero, Bool.true_and, Bool.and_true, Bool.false_and, Bool.and_false, Bool.true_or, Bool.false_or, Bool.or_false, Bool.or_true, beq_self_eq_true, not_true_eq_false, not_false_eq_true, decide_eq_true_eq, fldC1, ofC'1, par2_2, par3_3, w_par2E, w_par3E, w_slD, w_slF, w_eSlice, w_eNoP, w_eP, w_intO, w_gT21, w_zpLLT, w_truO1, w_binO, w_ninO, w_eCM, w_eqLL, w_neLL, w_eqTT, w_neTT, lcY_nil, lcY_cons, w_all2, at2_0, at2_1, at3_0, at3_1, at3_2, at4_0, at4_1, at4_2, at4_3, itm_some, ixLE, ixFE, ixTE, ixO0, setO0, put_some, ix2_0, ix2_1, ix4_0, ix4_1, ix4_2, ix4_3, false_and, and_false, implies_true, w_eClr, w_slAL, w_slAF, w_seqG, w_lenG, w_enAG, w_tupleG, ixGE, isi_lt_G, w_nisN, w_binI, w_eApp, w_eMakeF, isLO_b, ix_b, augIE, w_eMv, w_one, okTg_self, at_behind, set_behind, Nat.reduceAdd, Int.reduceLT, Int.reduceLE, Int.reduceToNat, Nat.reduceLT, Nat.reduceLeDiff, Nat.reduceEqDiff, Int.reduceAbs, Int.reduceAdd, Int.reduceEq, Int.reduceNeg, Int.reduceSub, Int.reduceMul, Nat.reduceSub, Int.cast_ofNat_Int, Int.natCast_zero, Int.natCast_one, mk1, mk2, tp, set_1 n1, jar_countsN, isLO_2, app_2 l1, jar_coloursN n8, isLO_3, app_3 l2, check_ok n8 hc, ofC1 cl, ofC1 cl2, jar_make n8 n1 hc', jar_add n8 n1 hc hc', jar_counts, r1, hl])
    rw [lcE (f := fun i => .int (c i + c' i)) fun i hi => by simp only [w_bind, w_pure, w_var, w_c, w_op2, w_nil, w_cons, w_tup, w_lst, w_newL, w_sub, w_add, w_mod, w_divE, w_powE, w_mulE, w_cmp, w_bD, w_eB, w_eTru, w_truB, w_ch, w_tand, w_tor, w_tnot, w_and, w_or, w_not, DL.w_next, w_ret, w_sif, w_expr, w_gN, w_asg, w_eCall, w_seq, goOn_nx, goOn_rt, w_lc, w_lcN, w_iR1, w_iR2, w_iSq, w_seqL, w_seqT, w_lenT, w_lenL, w_lenF, w_max, w_min, w_gSub, w_for, w_isi, w_if, w_tupleL, w_tupleT, w_listL, w_listT, w_listNT, w_listNL, w_neg, w_negI, w_eListR1, w_iZpA, w_iZp3A, w_iEnA, w_zpTT, w_zpTL, w_zpLT, w_zpLL, w_enAL, w_enAT, w_isN, w_isT, w_nisT, w_isB, w_nisB, w_isI, w_nisI, w_isL, w_nisL, w_gT2, w_gT3, w_intB, w_intI, w_eMake, w_fld1, w_prop1, w_meth1, w_sub1, w_or2a1, w_own, w_inO, w_eIf, w_eqI, w_neI, w_eqB, w_neB, isi_int_int, isi_int_bl, isi_int_non, isi_int_str, isi_int_lst, isi_int_tup, isi_int_dct, isi_bool_int, isi_bool_bl, isi_bool_non, isi_bool_str, isi_bool_lst, isi_bool_tup, isi_bool_dct, isi_str_int, isi_str_bl, isi_str_non, isi_str_str, isi_str_lst, isi_str_tup, isi_str_dct, isi_list_int, isi_list_bl, isi_list_non, isi_list_str, isi_list_lst, isi_list_tup, isi_list_dct, isi_tuple_int, isi_tuple_bl, isi_tuple_non, isi_tuple_str, isi_tuple_lst, isi_tuple_tup, isi_tuple_dct, isi_dict_int, isi_dict_bl, isi_dict_non, isi_dict_str, isi_dict_lst, isi_dict_tup, isi_dict_dct, isi_lt_int, isi_o_int, isi_lt_bl, isi_o_bl, isi_lt_non, isi_o_non, isi_lt_str, isi_o_str, isi_lt_lst, isi_o_lst, isi_lt_tup, isi_o_tup, isi_lt_dct, isi_o_dct, isi_own, mapR_len, rngD_length, enumD_mapR, zip_mapR, zip3_mapR, rng0, rngA, List.length_map, startD, wipeD, List.map_cons, List.map_nil, List.length_cons, List.length_nil, List.replicate, List.cons_append, List.nil_append, List.append_nil, List.getElem?_cons_zero, List.getElem?_cons_succ, List.set_cons_succ, List.set_cons_zero, Bool.not_true, Bool.not_false, if_true, if_false, Bool.false_eq_true, decide_true, decide_false, true_and, and_true, and_self, and_imp, Int.zero_add, le2, le3, le4, le1, le0, Nat.sub_zero, Bool.true_and, Bool.and_true, Bool.false_and, Bool.and_false, Bool.true_or, Bool.false_or, Bool.or_false, Bool.or_true, beq_self_eq_true, not_true_eq_false, not_false_eq_true, decide_eq_true_eq, fldC1, ofC'1, par2_2, par3_3, w_par2E, w_par3E, w_slD, w_slF, w_eSlice, w_eNoP, w_eP, w_intO, w_gT21, w_zpLLT, w_truO1, w_binO, w_ninO, w_eCM, w_eqLL, w_neLL, w_eqTT, w_neTT, lcY_nil, lcY_cons, w_all2, at2_0, at2_1, at3_0, at3_1, at3_2, at4_0, at4_1, at4_2, at4_3, itm_some, ixLE, ixFE, ixTE, ixO0, setO0, put_some, ix2_0, ix2_1, ix4_0, ix4_1, ix4_2, ix4_3, false_and, and_false, implies_true, w_eClr, w_slAL, w_slAF, w_seqG, w_lenG, w_enAG, w_tupleG, ixGE, isi_lt_G, w_nisN, w_binI, w_eApp, w_eMakeF, isLO_b, ix_b, augIE, w_eMv, w_one, okTg_self, at_behind, set_behind, Nat.reduceAdd, Int.reduceLT, Int.reduceLE, Int.reduceToNat, Nat.reduceLT, Nat.reduceLeDiff, Nat.reduceEqDiff, Int.reduceAbs, Int.reduceAdd, Int.reduceEq, Int.reduceNeg, Int.reduceSub, Int.reduceMul, Nat.reduceSub, Int.cast_ofNat_Int, Int.natCast_zero, Int.natCast_one, mapR_at hi]]
    (try simp only [w_bind, w_pure, w_var, w_c, w_op2, w_nil, w_cons, w_tup, w_lst, w_newL, w_sub, w_add, w_mod, w_divE, w_powE, w_mulE, w_cmp, w_bD, w_eB, w_eTru, w_truB, w_ch, w_tand, w_tor, w_tnot, w_and, w_or, w_not, DL.w_next, w_ret, w_sif, w_expr, w_gN, w_asg, w_eCall, w_seq, goOn_nx, goOn_rt, w_lc, w_lcN, w_iR1, w_iR2, w_iSq, w_seqL, w_seqT, w_lenT, w_lenL, w_lenF, w_max, w_min, w_gSub, w_for, w_isi, w_if, w_tupleL, w_tupleT, w_listL, w_listT, w_listNT, w_listNL, w_neg, w_negI, w_eListR1, w_iZpA, w_iZp3A, w_iEnA, w_zpTT, w_zpTL, w_zpLT, w_zpLL, w_enAL, w_enAT, w_isN, w_isT, w_nisT, w_isB, w_nisB, w_isI, w_nisI, w_isL, w_nisL, w_gT2, w_gT3, w_intB, w_intI, w_eMake, w_fld1, w_prop1, w_meth1, w_sub1, w_or2a1, w_own, w_inO, w_eIf, w_eqI, w_neI, w_eqB, w_neB, isi_int_int, isi_int_bl, isi_int_non, isi_int_str, isi_int_lst, isi_int_tup, isi_int_dct, isi_bool_int, isi_bool_bl, isi_bool_non, isi_bool_str, isi_bool_lst, isi_bool_tup, isi_bool_dct, isi_str_int, isi_str_bl, isi_str_non, isi_str_str, isi_str_lst, isi_str_tup, isi_str_dct, isi_list_int, isi_list_bl, isi_list_non, isi_list_str, isi_list_lst, isi_list_tup, isi_list_dct, isi_tuple_int, isi_tuple_bl, isi_tuple_non, isi_tuple_str, isi_tuple_lst, isi_tuple_tup, isi_tuple_dct, isi_dict_int, isi_dict_bl, isi_dict_non, isi_dict_str, isi_dict_lst, isi_dict_tup, isi_dict_dct, isi_lt_int, isi_o_int, isi_lt_bl, isi_o_bl, isi_lt_non, isi_o_non, isi_lt_str, isi_o_str, isi_lt_lst, isi_o_lst, isi_lt_tup, isi_o_tup, isi_lt_dct, isi_o_dct, isi_own, mapR_len, rngD_length, enumD_mapR, zip_mapR, zip3_mapR, rng0, rngA, List.length_map, startD, wipeD, List.map_cons, List.map_nil, List.length_cons, List.length_nil, List.replicate, List.cons_append, List.nil_append, List.append_nil, List.getElem?_cons_zero, List.getElem?_cons_succ, List.set_cons_succ, List.set_cons_zero, Bool.not_true, Bool.not_false, if_true, if_false, Bool.false_eq_true, decide_true, decide_false, true_and, and_true, and_self, and_imp, Int.zero_add, le2, le3, le4, le1, le0, Nat.sub_zero, Bool.true_and, Bool.and_true, Bool.false_and, Bool.and_false, Bool.true_or, Bool.false_or, Bool.or_false, Bool.or_true, beq_self_eq_true, not_true_eq_false, not_false_eq_true, decide_eq_true_eq, fldC1, ofC'1, par2_2, par3_3, w_par2E, w_par3E, w_slD, w_slF, w_eSlice, w_eNoP, w_eP, w_intO, w_gT21, w_zpLLT, w_truO1, w_binO, w_ninO, w_eCM, w_eqLL, w_neLL, w_eqTT, w_neTT, lcY_nil, lcY_cons, w_all2, at2_0, at2_1, at3_0, at3_1, at3_2, at4_0, at4_1, at4_2, at4_3, itm_some, ixLE, ixFE, ixTE, ixO0, setO0, put_some, ix2_0, ix2_1, ix4_0, ix4_1, ix4_2, ix4_3, false_and, and_false, implies_true, w_eClr, w_slAL, w_slAF, w_seqG, w_lenG, w_enAG, w_tupleG, ixGE, isi_lt_G, w_nisN, w_binI, w_eApp, w_eMakeF, isLO_b, ix_b, augIE, w_eMv, w_one, okTg_self, at_behind, set_behind, Nat.reduceAdd, Int.reduceLT, Int.reduceLE, Int.reduceToNat, Nat.reduceLT, Nat.reduceLeDiff, Nat.reduceEqDiff, Int.reduceAbs, Int.reduceAdd, Int.reduceEq, Int.reduceNeg, Int.reduceSub, Int.reduceMul, Nat.reduceSub, Int.cast_ofNat_Int, Int.natCast_zero, Int.natCast_one, jar_add n8 n1 hc hc', jar_add n8 n1 hc' hc, w_neO (C' := A.C_Jar) (ok := okTg A.C_Jar) okTg_self, jar_eq, e1, jar_sub (c := fun i => c i + c' i) (c' := c') n8 n1 (fun i hi => by have := hc i hi; omega), e2, jar_mul n8 n1 hc a5 (show v < 2 ^ 64 by omega), ofC1 cl, jar_counts, hl])
    rw [lcE (f := fun i => .int (c i * v)) fun i hi => by simp only [w_bind, w_pure, w_var, w_c, w_op2, w_nil, w_cons, w_tup, w_lst, w_newL, w_sub, w_add, w_mod, w_divE, w_powE, w_mulE, w_cmp, w_bD, w_eB, w_eTru, w_truB, w_ch, w_tand, w_tor, w_tnot, w_and, w_or, w_not, DL.w_next, w_ret, w_sif, w_expr, w_gN, w_asg, w_eCall, w_seq, goOn_nx, goOn_rt, w_lc, w_lcN, w_iR1, w_iR2, w_iSq, w_seqL, w_seqT, w_lenT, w_lenL, w_lenF, w_max, w_min, w_gSub, w_for, w_isi, w_if, w_tupleL, w_tupleT, w_listL, w_listT, w_listNT, w_listNL, w_neg, w_negI, w_eListR1, w_iZpA, w_iZp3A, w_iEnA, w_zpTT, w_zpTL, w_zpLT, w_zpLL, w_enAL, w_enAT, w_isN, w_isT, w_nisT, w_isB, w_nisB, w_isI, w_nisI, w_isL, w_nisL, w_gT2, w_gT3, w_intB, w_intI, w_eMake, w_fld1, w_prop1, w_meth1, w_sub1, w_or2a1, w_own, w_inO, w_eIf, w_eqI, w_neI, w_eqB, w_neB, isi_int_int, isi_int_bl, isi_int_non, isi_int_str, isi_int_lst, isi_int_tup, isi_int_dct, isi_bool_int, isi_bool_bl, isi_bool_non, isi_bool_str, isi_bool_lst, isi_bool_tup, isi_bool_dct, isi_str_int, isi_str_bl, isi_str_non, isi_str_str, isi_str_lst, isi_str_tup, isi_str_dct, isi_list_int, isi_list_bl, isi_list_non, isi_list_str, isi_list_lst, isi_list_tup, isi_list_dct, isi_tuple_int, isi_tuple_bl, isi_tuple_non, isi_tuple_str, isi_tuple_lst, isi_tuple_tup, isi_tuple_dct, isi_dict_int, isi_dict_bl, isi_dict_non, isi_dict_str, isi_dict_lst, isi_dict_tup, isi_dict_dct, isi_lt_int, isi_o_int, isi_lt_bl, isi_o_bl, isi_lt_non, isi_o_non, isi_lt_str, isi_o_str, isi_lt_lst, isi_o_lst, isi_lt_tup, isi_o_tup, isi_lt_dct, isi_o_dct, isi_own, mapR_len, rngD_length, enumD_mapR, zip_mapR, zip3_mapR, rng0, rngA, List.length_map, startD, wipeD, List.map_cons, List.map_nil, List.length_cons, List.length_nil, List.replicate, List.cons_append, List.nil_append, List.append_nil, List.getElem?_cons_zero, List.getElem?_cons_succ, List.set_cons_succ, List.set_cons_zero, Bool.not_true, Bool.not_false, if_true, if_false, Bool.false_eq_true, decide_true, decide_false, true_and, and_true, and_self, and_imp, Int.zero_add, le2, le3, le4, le1, le0, Nat.sub_zero, Bool.true_and, Bool.and_true, Bool.false_and, Bool.and_false, Bool.true_or, Bool.false_or, Bool.or_false, Bool.or_true, beq_self_eq_true, not_true_eq_false, not_false_eq_true, decide_eq_true_eq, fldC1, ofC'1, par2_2, par3_3, w_par2E, w_par3E, w_slD, w_slF, w_eSlice, w_eNoP, w_eP, w_intO, w_gT21, w_zpLLT, w_truO1, w_binO, w_ninO, w_eCM, w_eqLL, w_neLL, w_eqTT, w_neTT, lcY_nil, lcY_cons, w_all2, at2_0, at2_1, at3_0, at3_1, at3_2, at4_0, at4_1, at4_2, at4_3, itm_some, ixLE, ixFE, ixTE, ixO0, setO0, put_some, ix2_0, ix2_1, ix4_0, ix4_1, ix4_2, ix4_3, false_and, and_false, implies_true, w_eClr, w_slAL, w_slAF, w_seqG, w_lenG, w_enAG, w_tupleG, ixGE, isi_lt_G, w_nisN, w_binI, w_eApp, w_eMakeF, isLO_b, ix_b, augIE, w_eMv, w_one, okTg_self, at_behind, set_behind, Nat.reduceAdd, Int.reduceLT, Int.reduceLE, Int.reduceToNat, Nat.reduceLT, Nat.reduceLeDiff, Nat.reduceEqDiff, Int.reduceAbs, Int.reduceAdd, Int.reduceEq, Int.reduceNeg, Int.reduceSub, Int.reduceMul, Nat.reduceSub, Int.cast_ofNat_Int, Int.natCast_zero, Int.natCast_one, mv]]
    (try simp only [w_bind, w_pure, w_var, w_c, w_op2, w_nil, w_cons, w_tup, w_lst, w_newL, w_sub, w_add, w_mod, w_divE, w_powE, w_mulE, w_cmp, w_bD, w_eB, w_eTru, w_truB, w_ch, w_tand, w_tor, w_tnot, w_and, w_or, w_not, DL.w_next, w_ret, w_sif, w_expr, w_gN, w_asg, w_eCall, w_seq, goOn_nx, goOn_rt, w_lc, w_lcN, w_iR1, w_iR2, w_iSq, w_seqL, w_seqT, w_lenT, w_lenL, w_lenF, w_max, w_min, w_gSub, w_for, w_isi, w_if, w_tupleL, w_tupleT, w_listL, w_listT, w_listNT, w_listNL, w_neg, w_negI, w_eListR1, w_iZpA, w_iZp3A, w_iEnA, w_zpTT, w_zpTL, w_zpLT, w_zpLL, w_enAL, w_enAT, w_isN, w_isT, w_nisT, w_isB, w_nisB, w_isI, w_nisI, w_isL, w_nisL, w_gT2, w_gT3, w_intB, w_intI, w_eMake, w_fld1, w_prop1, w_meth1, w_sub1, w_or2a1, w_own, w_inO, w_eIf, w_eqI, w_neI, w_eqB, w_neB, isi_int_int, isi_int_bl, isi_int_non, isi_int_str, isi_int_lst, isi_int_tup, isi_int_dct, isi_bool_int, isi_bool_bl, isi_bool_non, isi_bool_str, isi_bool_lst, isi_bool_tup, isi_bool_dct, isi_str_int, isi_str_bl, isi_str_non, isi_str_str, isi_str_lst, isi_str_tup, isi_str_dct, isi_list_int, isi_list_bl, isi_list_non, isi_list_str, isi_list_lst, isi_list_tup, isi_list_dct, isi_tuple_int, isi_tuple_bl, isi_tuple_non, isi_tuple_str, isi_tuple_lst, isi_tuple_tup, isi_tuple_dct, isi_dict_int, isi_dict_bl, isi_dict_non, isi_dict_str, isi_dict_lst, isi_dict_tup, isi_dict_dct, isi_lt_int, isi_o_int, isi_lt_bl, isi_o_bl, isi_lt_non, isi_o_non, isi_lt_str, isi_o_str, isi_lt_lst, isi_o_lst, isi_lt_tup, isi_o_tup, isi_lt_dct, isi_o_dct, isi_own, mapR_len, rngD_length, enumD_mapR, zip_mapR, zip3_mapR, rng0, rngA, List.length_map, startD, wipeD, List.map_cons, List.map_nil, List.length_cons, List.length_nil, List.replicate, List.cons_append, List.nil_append, List.append_nil, List.getElem?_cons_zero, List.getElem?_cons_succ, List.set_cons_succ, List.set_cons_zero, Bool.not_true, Bool.not_false, if_true, if_false, Bool.false_eq_true, decide_true, decide_false, true_and, and_true, and_self, and_imp, Int.zero_add, le2, le3, le4, le1, le0, Nat.sub_zero, Bool.true_and, Bool.and_true, Bool.false_and, Bool.and_false, Bool.true_or, Bool.false_or, Bool.or_false, Bool.or_true, beq_self_eq_true, not_true_eq_false, not_false_eq_true, decide_eq_true_eq, fldC1, ofC'1, par2_2, par3_3, w_par2E, w_par3E, w_slD, w_slF, w_eSlice, w_eNoP, w_eP, w_intO, w_gT21, w_zpLLT, w_truO1, w_binO, w_ninO, w_eCM, w_eqLL, w_neLL, w_eqTT, w_neTT, lcY_nil, lcY_cons, w_all2, at2_0, at2_1, at3_0, at3_1, at3_2, at4_0, at4_1, at4_2, at4_3, itm_some, ixLE, ixFE, ixTE, ixO0, setO0, put_some, ix2_0, ix2_1, ix4_0, ix4_1, ix4_2, ix4_3, false_and, and_false, implies_true, w_eClr, w_slAL, w_slAF, w_seqG, w_lenG, w_enAG, w_tupleG, ixGE, isi_lt_G, w_nisN, w_binI, w_eApp, w_eMakeF, isLO_b, ix_b, augIE, w_eMv, w_one, okTg_self, at_behind, set_behind, Nat.reduceAdd, Int.reduceLT, Int.reduceLE, Int.reduceToNat, Nat.reduceLT, Nat.reduceLeDiff, Nat.reduceEqDiff, Int.reduceAbs, Int.reduceAdd, Int.reduceEq, Int.reduceNeg, Int.reduceSub, Int.reduceMul, Nat.reduceSub, Int.cast_ofNat_Int, Int.natCast_zero, Int.natCast_one, check_ok n8 hc, ofC1 cl, jar_counts, jar_mul (k := 0) n8 n1 hc (by decide) (by decide), w_mulL (show n ≤ 1000 by omega), jar_make (c := fun _ => 0) n8 n1 (fun i hi => Int.le_refl _), w_neO (C' := A.C_Jar) (ok := okTg A.C_Jar) okTg_self, jar_eq, e3, jar_sub (c := c) (c' := c) n8 n1 (fun i hi => Int.le_refl _), e4])
    refine beans_ok n8 fun l hl1 hl2 => ?_
    have e5 : mapR n (cnt l) = mapR n fun i => c i % 4 := mapR_ext hl2
    by_cases hv : v % 2 = 0
    all_goals
      (try simp only [w_bind, w_pure, w_var, w_c, w_op2, w_nil, w_cons, w_tup, w_lst, w_newL, w_sub, w_add, w_mod, w_divE, w_powE, w_mulE, w_cmp, w_bD, w_eB, w_eTru, w_truB, w_ch, w_tand, w_tor, w_tnot, w_and, w_or, w_not, DL.w_next, w_ret, w_sif, w_expr, w_gN, w_asg, w_eCall, w_seq, goOn_nx, goOn_rt, w_lc, w_lcN, w_iR1, w_iR2, w_iSq, w_seqL, w_seqT, w_lenT, w_lenL, w_lenF, w_max, w_min, w_gSub, w_for, w_isi, w_if, w_tupleL, w_tupleT, w_listL, w_listT, w_listNT, w_listNL, w_neg, w_negI, w_eListR1, w_iZpA, w_iZp3A, w_iEnA, w_zpTT, w_zpTL, w_zpLT, w_zpLL, w_enAL, w_enAT, w_isN, w_isT, w_nisT, w_isB, w_nisB, w_isI, w_nisI, w_isL, w_nisL, w_gT2, w_gT3, w_intB, w_intI, w_eMake, w_fld1, w_prop1, w_meth1, w_sub1, w_or2a1, w_own, w_inO, w_eIf, w_eqI, w_neI, w_eqB, w_neB, isi_int_int, isi_int_bl, isi_int_non, isi_int_str, isi_int_lst, isi_int_tup, isi_int_dct, isi_bool_int, isi_bool_bl, isi_bool_non, isi_bool_str, isi_bool_lst, isi_bool_tup, isi_bool_dct, isi_str_int, isi_str_bl, isi_str_non, isi_str_str, isi_str_lst, isi_str_tup, isi_str_dct, isi_list_int, isi_list_bl, isi_list_non, isi_list_str, isi_list_lst, isi_list_tup, isi_list_dct, isi_tuple_int, isi_tuple_bl, isi_tuple_non, isi_tuple_str, isi_tuple_lst, isi_tuple_tup, isi_tuple_dct, isi_dict_int, isi_dict_bl, isi_dict_non, isi_dict_str, isi_dict_lst, isi_dict_tup, isi_dict_dct, isi_lt_int, isi_o_int, isi_lt_bl, isi_o_bl, isi_lt_non, isi_o_non, isi_lt_str, isi_o_str, isi_lt_lst, isi_o_lst, isi_lt_tup, isi_o_tup, isi_lt_dct, isi_o_dct, isi_own, mapR_len, rngD_length, enumD_mapR, zip_mapR, zip3_mapR, rng0, rngA, List.length_map, startD, wipeD, List.map_cons, List.map_nil, List.length_cons, List.length_nil, List.replicate, List.cons_append, List.nil_append, List.append_nil, List.getElem?_cons_zero, List.getElem?_cons_succ, List.set_cons_succ, List.set_cons_zero, Bool.not_true, Bool.not_false, if_true, if_false, Bool.false_eq_true, decide_true, decide_false, true_and, and_true, and_self, and_imp, Int.zero_add, le2, le3, le4, le1, le0, Nat.sub_zero, Bool.true_and, Bool.and_true, Bool.false_and, Bool.and_false, Bool.true_or, Bool.false_or, Bool.or_false, Bool.or_true, beq_self_eq_true, not_true_eq_false, not_false_eq_true, decide_eq_true_eq, fldC1, ofC'1, par2_2, par3_3, w_par2E, w_par3E, w_slD, w_slF, w_eSlice, w_eNoP, w_eP, w_intO, w_gT21, w_zpLLT, w_truO1, w_binO, w_ninO, w_eCM, w_eqLL, w_neLL, w_eqTT, w_neTT, lcY_nil, lcY_cons, w_all2, at2_0, at2_1, at3_0, at3_1, at3_2, at4_0, at4_1, at4_2, at4_3, itm_some, ixLE, ixFE, ixTE, ixO0, setO0, put_some, ix2_0, ix2_1, ix4_0, ix4_1, ix4_2, ix4_3, false_and, and_false, implies_true, w_eClr, w_slAL, w_slAF, w_seqG, w_lenG, w_enAG, w_tupleG, ixGE, isi_lt_G, w_nisN, w_binI, w_eApp, w_eMakeF, isLO_b, ix_b, augIE, w_eMv, w_one, okTg_self, at_behind, set_behind, Nat.reduceAdd, Int.reduceLT, Int.reduceLE, Int.reduceToNat, Nat.reduceLT, Nat.reduceLeDiff, Nat.reduceEqDiff, Int.reduceAbs, Int.reduceAdd, Int.reduceEq, Int.reduceNeg, Int.reduceSub, Int.reduceMul, Nat.reduceSub, Int.cast_ofNat_Int, Int.natCast_zero, Int.natCast_one, hv, w_eCM, of_beans (.inl rfl) n8 n1 hl1, of_beans (.inr rfl) n8 n1 hl1, ofC1 cl, jar_counts, hl])
      rw [lcE (f := fun i => .int (c i % 4)) fun i hi => by simp only [w_bind, w_pure, w_var, w_c, w_op2, w_nil, w_cons, w_tup, w_lst, w_newL, w_sub, w_add, w_mod, w_divE, w_powE, w_mulE, w_cmp, w_bD, w_eB, w_eTru, w_truB, w_ch, w_tand, w_tor, w_tnot, w_and, w_or, w_not, DL.w_next, w_ret, w_sif, w_expr, w_gN, w_asg, w_eCall, w_seq, goOn_nx, goOn_rt, w_lc, w_lcN, w_iR1, w_iR2, w_iSq, w_seqL, w_seqT, w_lenT, w_lenL, w_lenF, w_max, w_min, w_gSub, w_for, w_isi, w_if, w_tupleL, w_tupleT, w_listL, w_listT, w_listNT, w_listNL, w_neg, w_negI, w_eListR1, w_iZpA, w_iZp3A, w_iEnA, w_zpTT, w_zpTL, w_zpLT, w_zpLL, w_enAL, w_enAT, w_isN, w_isT, w_nisT, w_isB, w_nisB, w_isI, w_nisI, w_isL, w_nisL, w_gT2, w_gT3, w_intB, w_intI, w_eMake, w_fld1, w_prop1, w_meth1, w_sub1, w_or2a1, w_own, w_inO, w_eIf, w_eqI, w_neI, w_eqB, w_neB, isi_int_int, isi_int_bl, isi_int_non, isi_int_str, isi_int_lst, isi_int_tup, isi_int_dct, isi_bool_int, isi_bool_bl, isi_bool_non, isi_bool_str, isi_bool_lst, isi_bool_tup, isi_bool_dct, isi_str_int, isi_str_bl, isi_str_non, isi_str_str, isi_str_lst, isi_str_tup, isi_str_dct, isi_list_int, isi_list_bl, isi_list_non, isi_list_str, isi_list_lst, isi_list_tup, isi_list_dct, isi_tuple_int, isi_tuple_bl, isi_tuple_non, isi_tuple_str, isi_tuple_lst, isi_tuple_tup, isi_tuple_dct, isi_dict_int, isi_dict_bl, isi_dict_non, isi_dict_str, isi_dict_lst, isi_dict_tup, isi_dict_dct, isi_lt_int, isi_o_int, isi_lt_bl, isi_o_bl, isi_lt_non, isi_o_non, isi_lt_str, isi_o_str, isi_lt_lst, isi_o_lst, isi_lt_tup, isi_o_tup, isi_lt_dct, isi_o_dct, isi_own, mapR_len, rngD_length, enumD_mapR, zip_mapR, zip3_mapR, rng0, rngA, List.length_map, startD, wipeD, List.map_cons, List.map_nil, List.length_cons, List.length_nil, List.replicate, List.cons_append, List.nil_append, List.append_nil, List.getElem?_cons_zero, List.getElem?_cons_succ, List.set_cons_succ, List.set_cons_zero, Bool.not_true, Bool.not_false, if_true, if_false, Bool.false_eq_true, decide_true, decide_false, true_and, and_true, and_self, and_imp, Int.zero_add, le2, le3, le4, le1, le0, Nat.sub_zero, Bool.true_and, Bool.and_true, Bool.false_and, Bool.and_false, Bool.true_or, Bool.false_or, Bool.or_false, Bool.or_true, beq_self_eq_true, not_true_eq_false, not_false_eq_true, decide_eq_true_eq, fldC1, ofC'1, par2_2, par3_3, w_par2E, w_par3E, w_slD, w_slF, w_eSlice, w_eNoP, w_eP, w_intO, w_gT21, w_zpLLT, w_truO1, w_binO, w_ninO, w_eCM, w_eqLL, w_neLL, w_eqTT, w_neTT, lcY_nil, lcY_cons, w_all2, at2_0, at2_1, at3_0, at3_1, at3_2, at4_0, at4_1, at4_2, at4_3, itm_some, ixLE, ixFE, ixTE, ixO0, setO0, put_some, ix2_0, ix2_1, ix4_0, ix4_1, ix4_2, ix4_3, false_and, and_false, implies_true, w_eClr, w_slAL, w_slAF, w_seqG, w_lenG, w_enAG, w_tupleG, ixGE, isi_lt_G, w_nisN, w_binI, w_eApp, w_eMakeF, isLO_b, ix_b, augIE, w_eMv, w_one, okTg_self, at_behind, set_behind, Nat.reduceAdd, Int.reduceLT, Int.reduceLE, Int.reduceToNat, Nat.reduceLT, Nat.reduceLeDiff, Nat.reduceEqDiff, Int.reduceAbs, Int.reduceAdd, Int.reduceEq, Int.reduceNeg, Int.reduceSub, Int.reduceMul, Nat.reduceSub, Int.cast_ofNat_Int, Int.natCast_zero, Int.natCast_one]]
      (try simp only [w_bind, w_pure, w_var, w_c, w_op2, w_nil, w_cons, w_tup, w_lst, w_newL, w_sub, w_add, w_mod, w_divE, w_powE, w_mulE, w_cmp, w_bD, w_eB, w_eTru, w_truB, w_ch, w_tand, w_tor, w_tnot, w_and, w_or, w_not, DL.w_next, w_ret, w_sif, w_expr, w_gN, w_asg, w_eCall, w_seq, goOn_nx, goOn_rt, w_lc, w_lcN, w_iR1, w_iR2, w_iSq, w_seqL, w_seqT, w_lenT, w_lenL, w_lenF, w_max, w_min, w_gSub, w_for, w_isi, w_if, w_tupleL, w_tupleT, w_listL, w_listT, w_listNT, w_listNL, w_neg, w_negI, w_eListR1, w_iZpA, w_iZp3A, w_iEnA, w_zpTT, w_zpTL, w_zpLT, w_zpLL, w_enAL, w_enAT, w_isN, w_isT, w_nisT, w_isB, w_nisB, w_isI, w_nisI, w_isL, w_nisL, w_gT2, w_gT3, w_intB, w_intI, w_eMake, w_fld1, w_prop1, w_meth1, w_sub1, w_or2a1, w_own, w_inO, w_eIf, w_eqI, w_neI, w_eqB, w_neB, isi_int_int, isi_int_bl, isi_int_non, isi_int_str, isi_int_lst, isi_int_tup, isi_int_dct, isi_bool_int, isi_bool_bl, isi_bool_non, isi_bool_str, isi_bool_lst, isi_bool_tup, isi_bool_dct, isi_str_int, isi_str_bl, isi_str_non, isi_str_str, isi_str_lst, isi_str_tup, isi_str_dct, isi_list_int, isi_list_bl, isi_list_non, isi_list_str, isi_list_lst, isi_list_tup, isi_list_dct, isi_tuple_int, isi_tuple_bl, isi_tuple_non, isi_tuple_str, isi_tuple_lst, isi_tuple_tup, isi_tuple_dct, isi_dict_int, isi_dict_bl, isi_dict_non, isi_dict_str, isi_dict_lst, isi_dict_tup, isi_dict_dct, isi_lt_int, isi_o_int, isi_lt_bl, isi_o_bl, isi_lt_non, isi_o_non, isi_lt_str, isi_o_str, isi_lt_lst, isi_o_lst, isi_lt_tup, isi_o_tup, isi_lt_dct, isi_o_dct, isi_own, mapR_len, rngD_length, enumD_mapR, zip_mapR, zip3_mapR, rng0, rngA, List.length_map, startD, wipeD, List.map_cons, List.map_nil, List.length_cons, List.length_nil, List.replicate, List.cons_append, List.nil_append, List.append_nil, List.getElem?_cons_zero, List.getElem?_cons_succ, List.set_cons_succ, List.set_cons_zero, Bool.not_true, Bool.not_false, if_true, if_false, Bool.false_eq_true, decide_true, decide_false, true_and, and_true, and_self, and_imp, Int.zero_add, le2, le3, le4, le1, le0, Nat.sub_zero, Bool.true_and, Bool.and_true, Bool.false_and, Bool.and_false, Bool.true_or, Bool.false_or, Bool.or_false, Bool.or_true, beq_self_eq_true, not_true_eq_false, not_false_eq_true, decide_eq_true_eq, fldC1, ofC'1, par2_2, par3_3, w_par2E, w_par3E, w_slD, w_slF, w_eSlice, w_eNoP, w_eP, w_intO, w_gT21, w_zpLLT, w_truO1, w_binO, w_ninO, w_eCM, w_eqLL, w_neLL, w_eqTT, w_neTT, lcY_nil, lcY_cons, w_all2, at2_0, at2_1, at3_0, at3_1, at3_2, at4_0, at4_1, at4_2, at4_3, itm_some, ixLE, ixFE, ixTE, ixO0, setO0, put_some, ix2_0, ix2_1, ix4_0, ix4_1, ix4_2, ix4_3, false_and, and_false, implies_true, w_eClr, w_slAL, w_slAF, w_seqG, w_lenG, w_enAG, w_tupleG, ixGE, isi_lt_G, w_nisN, w_binI, w_eApp, w_eMakeF, isLO_b, ix_b, augIE, w_eMv, w_one, okTg_self, at_behind, set_behind, Nat.reduceAdd, Int.reduceLT, Int.reduceLE, Int.reduceToNat, Nat.reduceLT, Nat.reduceLeDiff, Nat.reduceEqDiff, Int.reduceAbs, Int.reduceAdd, Int.reduceEq, Int.reduceNeg, Int.reduceSub, Int.reduceMul, Nat.reduceSub, Int.cast_ofNat_Int, Int.natCast_zero, Int.natCast_one, e5, w_eqO (C' := A.C_Jar) (ok := okTg A.C_Jar) okTg_self, jar_eq, six_le])
      refine forK (fun x hx => ?_) ?_
      · have q := odd_other (A := A) (st := [cellQ q1 q2, Cell.lst ((mapR n fun i => D.int (c i)).set 0 (D.int 99)), Cell.lst (mapR n (fun i => D.int (c i)) ++ [D.non]), Cell.lst (posL n c ++ [D.non])]) hx
        (try simp only [w_bind, w_pure, w_var, w_c, w_op2, w_nil, w_cons, w_tup, w_lst, w_newL, w_sub, w_add, w_mod, w_divE, w_powE, w_mulE, w_cmp, w_bD, w_eB, w_eTru, w_truB, w_ch, w_tand, w_tor, w_tnot, w_and, w_or, w_not, DL.w_next, w_ret, w_sif, w_expr, w_gN, w_asg, w_eCall, w_seq, goOn_nx, goOn_rt, w_lc, w_lcN, w_iR1, w_iR2, w_iSq, w_seqL, w_seqT, w_lenT, w_lenL, w_lenF, w_max, w_min, w_gSub, w_for, w_isi, w_if, w_tupleL, w_tupleT, w_listL, w_listT, w_listNT, w_listNL, w_neg, w_negI, w_eListR1, w_iZpA, w_iZp3A, w_iEnA, w_zpTT, w_zpTL, w_zpLT, w_zpLL, w_enAL, w_enAT, w_isN, w_isT, w_nisT, w_isB, w_nisB, w_isI, w_nisI, w_isL, w_nisL, w_gT2, w_gT3, w_intB, w_intI, w_eMake, w_fld1, w_prop1, w_meth1, w_sub1, w_or2a1, w_own, w_inO, w_eIf, w_eqI, w_neI, w_eqB, w_neB, isi_int_int, isi_int_bl, isi_int_non, isi_int_str, isi_int_lst, isi_int_tup, isi_int_dct, isi_bool_int, isi_bool_bl, isi_bool_non, isi_bool_str, isi_bool_lst, isi_bool_tup, isi_bool_dct, isi_str_int, isi_str_bl, isi_str_non, isi_str_str, isi_str_lst, isi_str_tup, isi_str_dct, isi_list_int, isi_list_bl, isi_list_non, isi_list_str, isi_list_lst, isi_list_tup, isi_list_dct, isi_tuple_int, isi_tuple_bl, isi_tuple_non, isi_tuple_str, isi_tuple_lst, isi_tuple_tup, isi_tuple_dct, isi_dict_int, isi_dict_bl, isi_dict_non, isi_dict_str, isi_dict_lst, isi_dict_tup, isi_dict_dct, isi_lt_int, isi_o_int, isi_lt_bl, isi_o_bl, isi_lt_non, isi_o_non, isi_lt_str, isi_o_str, isi_lt_lst, isi_o_lst, isi_lt_tup, isi_o_tup, isi_lt_dct, isi_o_dct, isi_own, mapR_len, rngD_length, enumD_mapR, zip_mapR, zip3_mapR, rng0, rngA, List.length_map, startD, wipeD, List.map_cons, List.map_nil, List.length_cons, List.length_nil, List.replicate, List.cons_append, List.nil_append, List.append_nil, List.getElem?_cons_zero, List.getElem?_cons_succ, List.set_cons_succ, List.set_cons_zero, Bool.not_true, Bool.not_false, if_true, if_false, Bool.false_eq_true, decide_true, decide_false, true_and, and_true, and_self, and_imp, Int.zero_add, le2, le3, le4, le1, le0, Nat.sub_zero, Bool.true_and, Bool.and_true, Bool.false_and, Bool.and_false, Bool.true_or, Bool.false_or, Bool.or_false, Bool.or_true, beq_self_eq_true, not_true_eq_false, not_false_eq_true, decide_eq_true_eq, fldC1, ofC'1, par2_2, par3_3, w_par2E, w_par3E, w_slD, w_slF, w_eSlice, w_eNoP, w_eP, w_intO, w_gT21, w_zpLLT, w_truO1, w_binO, w_ninO, w_eCM, w_eqLL, w_neLL, w_eqTT, w_neTT, lcY_nil, lcY_cons, w_all2, at2_0, at2_1, at3_0, at3_1, at3_2, at4_0, at4_1, at4_2, at4_3, itm_some, ixLE, ixFE, ixTE, ixO0, setO0, put_some, ix2_0, ix2_1, ix4_0, ix4_1, ix4_2, ix4_3, false_and, and_false, implies_true, w_eClr, w_slAL, w_slAF, w_seqG, w_lenG, w_enAG, w_tupleG, ixGE, isi_lt_G, w_nisN, w_binI, w_eApp, w_eMakeF, isLO_b, ix_b, augIE, w_eMv, w_one, okTg_self, at_behind, set_behind, Nat.reduceAdd, Int.reduceLT, Int.reduceLE, Int.reduceToNat, Nat.reduceLT, Nat.reduceLeDiff, Nat.reduceEqDiff, Int.reduceAbs, Int.reduceAdd, Int.reduceEq, Int.reduceNeg, Int.reduceSub, Int.reduceMul, Nat.reduceSub, Int.cast_ofNat_Int, Int.natCast_zero, Int.natCast_one])
        refine w_scopeP ?_
        (try simp only [w_bind, w_pure, w_var, w_c, w_op2, w_nil, w_cons, w_tup, w_lst, w_newL, w_sub, w_add, w_mod, w_divE, w_powE, w_mulE, w_cmp, w_bD, w_eB, w_eTru, w_truB, w_ch, w_tand, w_tor, w_tnot, w_and, w_or, w_not, DL.w_next, w_ret, w_sif, w_expr, w_gN, w_asg, w_eCall, w_seq, goOn_nx, goOn_rt, w_lc, w_lcN, w_iR1, w_iR2, w_iSq, w_seqL, w_seqT, w_lenT, w_lenL, w_lenF, w_max, w_min, w_gSub, w_for, w_isi, w_if, w_tupleL, w_tupleT, w_listL, w_listT, w_listNT, w_listNL, w_neg, w_negI, w_eListR1, w_iZpA, w_iZp3A, w_iEnA, w_zpTT, w_zpTL, w_zpLT, w_zpLL, w_enAL, w_enAT, w_isN, w_isT, w_nisT, w_isB, w_nisB, w_isI, w_nisI, w_isL, w_nisL, w_gT2, w_gT3, w_intB, w_intI, w_eMake, w_fld1, w_prop1, w_meth1, w_sub1, w_or2a1, w_own, w_inO, w_eIf, w_eqI, w_neI, w_eqB, w_neB, isi_int_int, isi_int_bl, isi_int_non, isi_int_str, isi_int_lst, isi_int_tup, isi_int_dct, isi_bool_int, isi_bool_bl, isi_bool_non, isi_bool_str, isi_bool_lst, isi_bool_tup, isi_bool_dct, isi_str_int, isi_str_bl, isi_str_non, isi_str_str, isi_str_lst, isi_str_tup, isi_str_dct, isi_list_int, isi_list_bl, isi_list_non, isi_list_str, isi_list_lst, isi_list_tup, isi_list_dct, isi_tuple_int, isi_tuple_bl, isi_tuple_non, isi_tuple_str, isi_tuple_lst, isi_tuple_tup, isi_tuple_dct, isi_dict_int, isi_dict_bl, isi_dict_non, isi_dict_str, isi_dict_lst, isi_dict_tup, isi_dict_dct, isi_lt_int, isi_o_int, isi_lt_bl, isi_o_bl, isi_lt_non, isi_o_non, isi_lt_str, isi_o_str, isi_lt_lst, isi_o_lst, isi_lt_tup, isi_o_tup, isi_lt_dct, isi_o_dct, isi_own, mapR_len, rngD_length, enumD_mapR, zip_mapR, zip3_mapR, rng0, rngA, List.length_map, startD, wipeD, List.map_cons, List.map_nil, List.length_cons, List.length_nil, List.replicate, List.cons_append, List.nil_append, List.append_nil, List.getElem?_cons_zero, List.getElem?_cons_succ, List.set_cons_succ, List.set_cons_zero, Bool.not_true, Bool.not_false, if_true, if_false, Bool.false_eq_true, decide_true, decide_false, true_and, and_true, and_self, and_imp, Int.zero_add, le2, le3, le4, le1, le0, Nat.sub_zero, Bool.true_and, Bool.and_true, Bool.false_and, Bool.and_false, Bool.true_or, Bool.false_or, Bool.or_false, Bool.or_true, beq_self_eq_true, not_true_eq_false, not_false_eq_true, decide_eq_true_eq, fldC1, ofC'1, par2_2, par3_3, w_par2E, w_par3E, w_slD, w_slF, w_eSlice, w_eNoP, w_eP, w_intO, w_gT21, w_zpLLT, w_truO1, w_binO, w_ninO, w_eCM, w_eqLL, w_neLL, w_eqTT, w_neTT, lcY_nil, lcY_cons, w_all2, at2_0, at2_1, at3_0, at3_1, at3_2, at4_0, at4_1, at4_2, at4_3, itm_some, ixLE, ixFE, ixTE, ixO0, setO0, put_some, ix2_0, ix2_1, ix4_0, ix4_1, ix4_2, ix4_3, false_and, and_false, implies_true, w_eClr, w_slAL, w_slAF, w_seqG, w_lenG, w_enAG, w_tupleG, ixGE, isi_lt_G, w_nisN, w_binI, w_eApp, w_eMakeF, isLO_b, ix_b, augIE, w_eMv, w_one, okTg_self, at_behind, set_behind, Nat.reduceAdd, Int.reduceLT, Int.reduceLE, Int.reduceToNat, Nat.reduceLT, Nat.reduceLeDiff, Nat.reduceEqDiff, Int.reduceAbs, Int.reduceAdd, Int.reduceEq, Int.reduceNeg, Int.reduceSub, Int.reduceMul, Nat.reduceSub, Int.cast_ofNat_Int, Int.natCast_zero, Int.natCast_one, eqO_no q, neO_no q])
        have hb := q.2.2
        simp only [unsetAll, belowE, List.set_cons_succ, List.set_cons_zero, List.all_cons, List.all_nil, belowO_some, belowO_none, belowD_G, belowD, belowDs, belowFs, belowC, belowDs_mapR, belowDs_map', belowDs_app', Bool.and_true, Bool.and_self, Bool.true_and, all_true', List.length_nil, List.length_cons, List.length_append, Nat.reduceAdd, Nat.reduceLT, decide_true, Nat.zero_lt_succ, Nat.lt_add_one, and_true, true_and, hb]
      · exact fin _ _ _ _ _ _ _ _ _ _ _ _ _ _ _
theorem main_ok (A : As) (hd : True) : ∀ ns : List Int, ns.length ≤ 63 → ∃ st, g_law A [.fl (ns.map D.int)] [] = some (.ok (.bl true) st) := by
  intro ns hl
  refine w_true (w_callM rfl ?_)
  unfold b_law
  rw [w_seq, w_for]
  refine src_ok (by decide) (by decide) fun m hm => ?_
  refine forJ (fun _ s => s = []) (fun i s hi hJ => ?_) (fun s hJ => ?_) rfl
  · rw [hJ, w_gN]
    exact turn_ok (by omega) ⟨rfl, rfl⟩
  · rw [hJ]
    (try simp only [w_bind, w_pure, w_var, w_c, w_op2, w_nil, w_cons, w_tup, w_lst, w_newL, w_sub, w_add, w_mod, w_divE, w_powE, w_mulE, w_cmp, w_bD, w_eB, w_eTru, w_truB, w_ch, w_tand, w_tor, w_tnot, w_and, w_or, w_not, DL.w_next, w_ret, w_sif, w_expr, w_gN, w_asg, w_eCall, w_seq, goOn_nx, goOn_rt, w_lc, w_lcN, w_iR1, w_iR2, w_iSq, w_seqL, w_seqT, w_lenT, w_lenL, w_lenF, w_max, w_min, w_gSub, w_for, w_isi, w_if, w_tupleL, w_tupleT, w_listL, w_listT, w_listNT, w_listNL, w_neg, w_negI, w_eListR1, w_iZpA, w_iZp3A, w_iEnA, w_zpTT, w_zpTL, w_zpLT, w_zpLL, w_enAL, w_enAT, w_isN, w_isT, w_nisT, w_isB, w_nisB, w_isI, w_nisI, w_isL, w_nisL, w_gT2, w_gT3, w_intB, w_intI, w_eMake, w_fld1, w_prop1, w_meth1, w_sub1, w_or2a1, w_own, w_inO, w_eIf, w_eqI, w_neI, w_eqB, w_neB, isi_int_int, isi_int_bl, isi_int_non, isi_int_str, isi_int_lst, isi_int_tup, isi_int_dct, isi_bool_int, isi_bool_bl, isi_bool_non, isi_bool_str, isi_bool_lst, isi_bool_tup, isi_bool_dct, isi_str_int, isi_str_bl, isi_str_non, isi_str_str, isi_str_lst, isi_str_tup, isi_str_dct, isi_list_int, isi_list_bl, isi_list_non, isi_list_str, isi_list_lst, isi_list_tup, isi_list_dct, isi_tuple_int, isi_tuple_bl, isi_tuple_non, isi_tuple_str, isi_tuple_lst, isi_tuple_tup, isi_tuple_dct, isi_dict_int, isi_dict_bl, isi_dict_non, isi_dict_str, isi_dict_lst, isi_dict_tup, isi_dict_dct, isi_lt_int, isi_o_int, isi_lt_bl, isi_o_bl, isi_lt_non, isi_o_non, isi_lt_str, isi_o_str, isi_lt_lst, isi_o_lst, isi_lt_tup, isi_o_tup, isi_lt_dct, isi_o_dct, isi_own, mapR_len, rngD_length, enumD_mapR, zip_mapR, zip3_mapR, rng0, rngA, List.length_map, startD, wipeD, List.map_cons, List.map_nil, List.length_cons, List.length_nil, List.replicate, List.cons_append, List.nil_append, List.append_nil, List.getElem?_cons_zero, List.getElem?_cons_succ, List.set_cons_succ, List.set_cons_zero, Bool.not_true, Bool.not_false, if_true, if_false, Bool.false_eq_true, decide_true, decide_false, true_and, and_true, and_self, and_imp, Int.zero_add, le2, le3, le4, le1, le0, Nat.sub_zero, Bool.true_and, Bool.and_true, Bool.false_and, Bool.and_false, Bool.true_or, Bool.false_or, Bool.or_false, Bool.or_true, beq_self_eq_true, not_true_eq_false, not_false_eq_true, decide_eq_true_eq, fldC1, ofC'1, par2_2, par3_3, w_par2E, w_par3E, w_slD, w_slF, w_eSlice, w_eNoP, w_eP, w_intO, w_gT21, w_zpLLT, w_truO1, w_binO, w_ninO, w_eCM, w_eqLL, w_neLL, w_eqTT, w_neTT, lcY_nil, lcY_cons, w_all2, at2_0, at2_1, at3_0, at3_1, at3_2, at4_0, at4_1, at4_2, at4_3, itm_some, ixLE, ixFE, ixTE, ixO0, setO0, put_some, ix2_0, ix2_1, ix4_0, ix4_1, ix4_2, ix4_3, false_and, and_false, implies_true, w_eClr, w_slAL, w_slAF, w_seqG, w_lenG, w_enAG, w_tupleG, ixGE, isi_lt_G, w_nisN, w_binI, w_eApp, w_eMakeF, isLO_b, ix_b, augIE, w_eMv, w_one, okTg_self, at_behind, set_behind, Nat.reduceAdd, Int.reduceLT, Int.reduceLE, Int.reduceToNat, Nat.reduceLT, Nat.reduceLeDiff, Nat.reduceEqDiff, Int.reduceAbs, Int.reduceAdd, Int.reduceEq, Int.reduceNeg, Int.reduceSub, Int.reduceMul, Nat.reduceSub, Int.cast_ofNat_Int, Int.natCast_zero, Int.natCast_one])
    exact ⟨⟨Nat.zero_le _, fun i c hi => absurd hi (Nat.not_lt_zero _)⟩, .bl true, frz_bel rfl, rfl⟩
end
end Law
end
namespace Law
open PySem PySem.Spec PyProof.Rows L2 DL
theorem all_mk {l : PySem.W.OpenLaw} {w : World} {K : PySem.W.Frag} {h : Heap} {mg : Str → Option Value} {fa : Addr} (X : K.In h) (G : h.Ns mainGlobals mg) (hfa : mg "law" = some (.ref fa)) {C_Jar : Addr} {f_ulaw_pool : Addr} {f_is_sequence : Addr} {f_is_integer : Addr} {f_is_count : Addr} {f_Jar_uuinituu : Addr} {f_Jar_uuequu : Addr} {f_ulaw_beans : Addr} {f_need_number : Addr} {f_is_colour : Addr} {f_need_colours : Addr} {f_Jar_of_beans : Addr} {pp_Jar_of_beans : Addr} {f_ulaw_draw : Addr} {f_ulaw_counts : Addr} {f_Jar_colours : Addr} {f_Jar_size : Addr} {pp_Jar_size : Addr} {f_Jar_total : Addr} {pp_Jar_total : Addr} {f_Jar_counts : Addr} {f_Jar_uubooluu : Addr} {f_Jar_uugetitemuu : Addr} {f_Jar_uucontainsuu : Addr} {f_ulaw_check : Addr} {f_need_same_size : Addr} {f_Jar_uuadduu : Addr} {f_Jar_uusubuu : Addr} {f_Jar_uumuluu : Addr} {f_law : Addr} {rest_Jar_of_beans : List Value} {rest_Jar_size : List Value} {rest_Jar_total : List Value} {tk_MOST_COLOURS : Tok} {oc_ulaw_pool kV_ulaw_pool dc_ulaw_pool pm_ulaw_pool cd_ulaw_pool ct_ulaw_pool : Value} {od_ulaw_pool an_ulaw_pool : Option Addr} {sl_ulaw_pool : Array (Option Value)} {oc_is_sequence kV_is_sequence dc_is_sequence pm_is_sequence cd_is_sequence ct_is_sequence : Value} {od_is_sequence an_is_sequence : Option Addr} {sl_is_sequence : Array (Option Value)} {oc_is_integer kV_is_integer dc_is_integer pm_is_integer cd_is_integer ct_is_integer : Value} {od_is_integer an_is_integer : Option Addr} {sl_is_integer : Array (Option Value)} {oc_is_count kV_is_count dc_is_count pm_is_count cd_is_count ct_is_count : Value} {od_is_count an_is_count : Option Addr} {sl_is_count : Array (Option Value)} {oc_Jar_uuinituu kV_Jar_uuinituu dc_Jar_uuinituu pm_Jar_uuinituu cd_Jar_uuinituu ct_Jar_uuinituu : Value} {od_Jar_uuinituu an_Jar_uuinituu : Option Addr} {sl_Jar_uuinituu : Array (Option Value)} {oc_Jar_uuequu kV_Jar_uuequu dc_Jar_uuequu pm_Jar_uuequu cd_Jar_uuequu ct_Jar_uuequu : Value} {od_Jar_uuequu an_Jar_uuequu : Option Addr} {sl_Jar_uuequu : Array (Option Value)} {oc_ulaw_beans kV_ulaw_beans dc_ulaw_beans pm_ulaw_beans cd_ulaw_beans ct_ulaw_beans : Value} {od_ulaw_beans an_ulaw_beans : Option Addr} {sl_ulaw_beans : Array (Option Value)} {oc_need_number kV_need_number dc_need_number pm_need_number cd_need_number ct_need_number : Value} {od_need_number an_need_number : Option Addr} {sl_need_number : Array (Option Value)} {oc_is_colour kV_is_colour dc_is_colour pm_is_colour cd_is_colour ct_is_colour : Value} {od_is_colour an_is_colour : Option Addr} {sl_is_colour : Array (Option Value)} {oc_need_colours kV_need_colours dc_need_colours pm_need_colours cd_need_colours ct_need_colours : Value} {od_need_colours an_need_colours : Option Addr} {sl_need_colours : Array (Option Value)} {oc_Jar_of_beans kV_Jar_of_beans dc_Jar_of_beans pm_Jar_of_beans cd_Jar_of_beans ct_Jar_of_beans : Value} {od_Jar_of_beans an_Jar_of_beans : Option Addr} {sl_Jar_of_beans : Array (Option Value)} {oc_ulaw_draw kV_ulaw_draw dc_ulaw_draw pm_ulaw_draw cd_ulaw_draw ct_ulaw_draw : Value} {od_ulaw_draw an_ulaw_draw : Option Addr} {sl_ulaw_draw : Array (Option Value)} {oc_ulaw_counts kV_ulaw_counts dc_ulaw_counts pm_ulaw_counts cd_ulaw_counts ct_ulaw_counts : Value} {od_ulaw_counts an_ulaw_counts : Option Addr} {sl_ulaw_counts : Array (Option Value)} {oc_Jar_colours kV_Jar_colours dc_Jar_colours pm_Jar_colours cd_Jar_colours ct_Jar_colours : Value} {od_Jar_colours an_Jar_colours : Option Addr} {sl_Jar_colours : Array (Option Value)} {oc_Jar_size kV_Jar_size dc_Jar_size pm_Jar_size cd_Jar_size ct_Jar_size : Value} {od_Jar_size an_Jar_size : Option Addr} {sl_Jar_size : Array (Option Value)} {oc_Jar_total kV_Jar_total dc_Jar_total pm_Jar_total cd_Jar_total ct_Jar_total : Value} {od_Jar_total an_Jar_total : Option Addr} {sl_Jar_total : Array (Option Value)} {oc_Jar_counts kV_Jar_counts dc_Jar_counts pm_Jar_counts cd_Jar_counts ct_Jar_counts : Value} {od_Jar_counts an_Jar_counts : Option Addr} {sl_Jar_counts : Array (Option Value)} {oc_Jar_uubooluu kV_Jar_uubooluu dc_Jar_uubooluu pm_Jar_uubooluu cd_Jar_uubooluu ct_Jar_uubooluu : Value} {od_Jar_uubooluu an_Jar_uubooluu : Option Addr} {sl_Jar_uubooluu : Array (Option Value)} {oc_Jar_uugetitemuu kV_Jar_uugetitemuu dc_Jar_uugetitemuu pm_Jar_uugetitemuu cd_Jar_uugetitemuu ct_Jar_uugetitemuu : Value} {od_Jar_uugetitemuu an_Jar_uugetitemuu : Option Addr} {sl_Jar_uugetitemuu : Array (Option Value)} {oc_Jar_uucontainsuu kV_Jar_uucontainsuu dc_Jar_uucontainsuu pm_Jar_uucontainsuu cd_Jar_uucontainsuu ct_Jar_uucontainsuu : Value} {od_Jar_uucontainsuu an_Jar_uucontainsuu : Option Addr} {sl_Jar_uucontainsuu : Array (Option Value)} {oc_ulaw_check kV_ulaw_check dc_ulaw_check pm_ulaw_check cd_ulaw_check ct_ulaw_check : Value} {od_ulaw_check an_ulaw_check : Option Addr} {sl_ulaw_check : Array (Option Value)} {oc_need_same_size kV_need_same_size dc_need_same_size pm_need_same_size cd_need_same_size ct_need_same_size : Value} {od_need_same_size an_need_same_size : Option Addr} {sl_need_same_size : Array (Option Value)} {oc_Jar_uuadduu kV_Jar_uuadduu dc_Jar_uuadduu pm_Jar_uuadduu cd_Jar_uuadduu ct_Jar_uuadduu : Value} {od_Jar_uuadduu an_Jar_uuadduu : Option Addr} {sl_Jar_uuadduu : Array (Option Value)} {oc_Jar_uusubuu kV_Jar_uusubuu dc_Jar_uusubuu pm_Jar_uusubuu cd_Jar_uusubuu ct_Jar_uusubuu : Value} {od_Jar_uusubuu an_Jar_uusubuu : Option Addr} {sl_Jar_uusubuu : Array (Option Value)} {oc_Jar_uumuluu kV_Jar_uumuluu dc_Jar_uumuluu pm_Jar_uumuluu cd_Jar_uumuluu ct_Jar_uumuluu : Value} {od_Jar_uumuluu an_Jar_uumuluu : Option Addr} {sl_Jar_uumuluu : Array (Option Value)} {oc_law kV_law dc_law pm_law cd_law ct_law : Value} {od_law an_law : Option Addr} {sl_law : Array (Option Value)}
    (gc_Jar : PySem.W.nsIn K mainGlobals "Jar" = some (some (.ref C_Jar)))
    (i1_Jar : PySem.W.plainGet K C_Jar Str.empty = true)
    (i2_Jar : PySem.W.hasDictIn K C_Jar = true)
    (i3_Jar : PySem.W.plainOver K C_Jar = true)
    (i4_Jar : PySem.W.findIn K (.ref C_Jar) "__setattr__" = some (some (.builtin "object.__setattr__")))
    (i5_Jar : PySem.W.findIn K (.ref C_Jar) "__class__" = some (some (.builtin "object.__class__")))
    (i6_Jar : PySem.W.specialIn K (.builtin "object.__class__") "__get__" = some (some (.builtin "getset_descriptor.__get__")))
    (i7_Jar : PySem.W.takesIn K (.builtin "object.__class__") = some true)
    (i8_Jar : PySem.W.mroIn K C_Jar (.type "object") = some true)
    (a_ulaw_pool : PySem.W.nsIn K mainGlobals "_law_pool" = some (some (.ref f_ulaw_pool)))
    (l_ulaw_pool : K.lookup f_ulaw_pool = some ⟨oc_ulaw_pool, od_ulaw_pool, .func (PySem.W.fnOf "_law_pool" "_law_pool" (defArgs s_ulaw_pool) (defBody s_ulaw_pool) (defScope s_ulaw_pool) .none kV_ulaw_pool dc_ulaw_pool pm_ulaw_pool an_ulaw_pool cd_ulaw_pool ct_ulaw_pool), sl_ulaw_pool⟩)
    (cc_ulaw_pool : PySem.W.codeIn K cd_ulaw_pool "_law_pool" = true)
    (k_ulaw_pool : PySem.W.keepIn K (.ref f_ulaw_pool) = true)
    (a_is_sequence : PySem.W.nsIn K mainGlobals "is_sequence" = some (some (.ref f_is_sequence)))
    (l_is_sequence : K.lookup f_is_sequence = some ⟨oc_is_sequence, od_is_sequence, .func (PySem.W.fnOf "is_sequence" "is_sequence" (defArgs s_is_sequence) (defBody s_is_sequence) (defScope s_is_sequence) .none kV_is_sequence dc_is_sequence pm_is_sequence an_is_sequence cd_is_sequence ct_is_sequence), sl_is_sequence⟩)
    (cc_is_sequence : PySem.W.codeIn K cd_is_sequence "is_sequence" = true)
    (k_is_sequence : PySem.W.keepIn K (.ref f_is_sequence) = true)
    (a_is_integer : PySem.W.nsIn K mainGlobals "is_integer" = some (some (.ref f_is_integer)))
    (l_is_integer : K.lookup f_is_integer = some ⟨oc_is_integer, od_is_integer, .func (PySem.W.fnOf "is_integer" "is_integer" (defArgs s_is_integer) (defBody s_is_integer) (defScope s_is_integer) .none kV_is_integer dc_is_integer pm_is_integer an_is_integer cd_is_integer ct_is_integer), sl_is_integer⟩)
    (cc_is_integer : PySem.W.codeIn K cd_is_integer "is_integer" = true)
    (k_is_integer : PySem.W.keepIn K (.ref f_is_integer) = true)
    (a_is_count : PySem.W.nsIn K mainGlobals "is_count" = some (some (.ref f_is_count)))
    (l_is_count : K.lookup f_is_count = some ⟨oc_is_count, od_is_count, .func (PySem.W.fnOf "is_count" "is_count" (defArgs s_is_count) (defBody s_is_count) (defScope s_is_count) .none kV_is_count dc_is_count pm_is_count an_is_count cd_is_count ct_is_count), sl_is_count⟩)
    (cc_is_count : PySem.W.codeIn K cd_is_count "is_count" = true)
    (k_is_count : PySem.W.keepIn K (.ref f_is_count) = true)
    (a_Jar_uuinituu : PySem.W.findIn K (.ref C_Jar) "__init__" = some (some (.ref f_Jar_uuinituu)))
    (j_Jar_uuinituu : PySem.W.isFn K (.ref f_Jar_uuinituu) = true)
    (l_Jar_uuinituu : K.lookup f_Jar_uuinituu = some ⟨oc_Jar_uuinituu, od_Jar_uuinituu, .func (PySem.W.fnOf "__init__" "Jar.__init__" (defArgs s_Jar_uuinituu) (defBody s_Jar_uuinituu) (defScope s_Jar_uuinituu) .none kV_Jar_uuinituu dc_Jar_uuinituu pm_Jar_uuinituu an_Jar_uuinituu cd_Jar_uuinituu ct_Jar_uuinituu), sl_Jar_uuinituu⟩)
    (cc_Jar_uuinituu : PySem.W.codeIn K cd_Jar_uuinituu "Jar.__init__" = true)
    (k_Jar_uuinituu : PySem.W.keepIn K (.ref f_Jar_uuinituu) = true)
    (a_Jar_uuequu : PySem.W.findIn K (.ref C_Jar) "__eq__" = some (some (.ref f_Jar_uuequu)))
    (j_Jar_uuequu : PySem.W.isFn K (.ref f_Jar_uuequu) = true)
    (l_Jar_uuequu : K.lookup f_Jar_uuequu = some ⟨oc_Jar_uuequu, od_Jar_uuequu, .func (PySem.W.fnOf "__eq__" "Jar.__eq__" (defArgs s_Jar_uuequu) (defBody s_Jar_uuequu) (defScope s_Jar_uuequu) .none kV_Jar_uuequu dc_Jar_uuequu pm_Jar_uuequu an_Jar_uuequu cd_Jar_uuequu ct_Jar_uuequu), sl_Jar_uuequu⟩)
    (cc_Jar_uuequu : PySem.W.codeIn K cd_Jar_uuequu "Jar.__eq__" = true)
    (k_Jar_uuequu : PySem.W.keepIn K (.ref f_Jar_uuequu) = true)
    (a_ulaw_beans : PySem.W.nsIn K mainGlobals "_law_beans" = some (some (.ref f_ulaw_beans)))
    (l_ulaw_beans : K.lookup f_ulaw_beans = some ⟨oc_ulaw_beans, od_ulaw_beans, .func (PySem.W.fnOf "_law_beans" "_law_beans" (defArgs s_ulaw_beans) (defBody s_ulaw_beans) (defScope s_ulaw_beans) .none kV_ulaw_beans dc_ulaw_beans pm_ulaw_beans an_ulaw_beans cd_ulaw_beans ct_ulaw_beans), sl_ulaw_beans⟩)
    (cc_ulaw_beans : PySem.W.codeIn K cd_ulaw_beans "_law_beans" = true)
    (k_ulaw_beans : PySem.W.keepIn K (.ref f_ulaw_beans) = true)
    (a_need_number : PySem.W.nsIn K mainGlobals "need_number" = some (some (.ref f_need_number)))
    (l_need_number : K.lookup f_need_number = some ⟨oc_need_number, od_need_number, .func (PySem.W.fnOf "need_number" "need_number" (defArgs s_need_number) (defBody s_need_number) (defScope s_need_number) .none kV_need_number dc_need_number pm_need_number an_need_number cd_need_number ct_need_number), sl_need_number⟩)
    (cc_need_number : PySem.W.codeIn K cd_need_number "need_number" = true)
    (k_need_number : PySem.W.keepIn K (.ref f_need_number) = true)
    (a_is_colour : PySem.W.nsIn K mainGlobals "is_colour" = some (some (.ref f_is_colour)))
    (l_is_colour : K.lookup f_is_colour = some ⟨oc_is_colour, od_is_colour, .func (PySem.W.fnOf "is_colour" "is_colour" (defArgs s_is_colour) (defBody s_is_colour) (defScope s_is_colour) .none kV_is_colour dc_is_colour pm_is_colour an_is_colour cd_is_colour ct_is_colour), sl_is_colour⟩)
    (cc_is_colour : PySem.W.codeIn K cd_is_colour "is_colour" = true)
    (k_is_colour : PySem.W.keepIn K (.ref f_is_colour) = true)
    (a_need_colours : PySem.W.nsIn K mainGlobals "need_colours" = some (some (.ref f_need_colours)))
    (l_need_colours : K.lookup f_need_colours = some ⟨oc_need_colours, od_need_colours, .func (PySem.W.fnOf "need_colours" "need_colours" (defArgs s_need_colours) (defBody s_need_colours) (defScope s_need_colours) .none kV_need_colours dc_need_colours pm_need_colours an_need_colours cd_need_colours ct_need_colours), sl_need_colours⟩)
    (cc_need_colours : PySem.W.codeIn K cd_need_colours "need_colours" = true)
    (k_need_colours : PySem.W.keepIn K (.ref f_need_colours) = true)
    (a_Jar_of_beans : PySem.W.findCls K (.ref C_Jar) (.type "type") "of_beans" = some (.get (.builtin "classmethod.__get__") (.ref pp_Jar_of_beans) .none (.ref C_Jar)))
    (d_Jar_of_beans : PySem.W.recIn K pp_Jar_of_beans "classmethod" = some (.ref f_Jar_of_beans :: rest_Jar_of_beans))
    (c_Jar_of_beans : PySem.W.fnIn K f_Jar_of_beans = true)
    (l_Jar_of_beans : K.lookup f_Jar_of_beans = some ⟨oc_Jar_of_beans, od_Jar_of_beans, .func (PySem.W.fnOf "of_beans" "Jar.of_beans" (defArgs s_Jar_of_beans) (defBody s_Jar_of_beans) (defScope s_Jar_of_beans) .none kV_Jar_of_beans dc_Jar_of_beans pm_Jar_of_beans an_Jar_of_beans cd_Jar_of_beans ct_Jar_of_beans), sl_Jar_of_beans⟩)
    (cc_Jar_of_beans : PySem.W.codeIn K cd_Jar_of_beans "Jar.of_beans" = true)
    (k_Jar_of_beans : PySem.W.keepIn K (.ref f_Jar_of_beans) = true)
    (a_ulaw_draw : PySem.W.nsIn K mainGlobals "_law_draw" = some (some (.ref f_ulaw_draw)))
    (l_ulaw_draw : K.lookup f_ulaw_draw = some ⟨oc_ulaw_draw, od_ulaw_draw, .func (PySem.W.fnOf "_law_draw" "_law_draw" (defArgs s_ulaw_draw) (defBody s_ulaw_draw) (defScope s_ulaw_draw) .none kV_ulaw_draw dc_ulaw_draw pm_ulaw_draw an_ulaw_draw cd_ulaw_draw ct_ulaw_draw), sl_ulaw_draw⟩)
    (cc_ulaw_draw : PySem.W.codeIn K cd_ulaw_draw "_law_draw" = true)
    (k_ulaw_draw : PySem.W.keepIn K (.ref f_ulaw_draw) = true)
    (a_ulaw_counts : PySem.W.nsIn K mainGlobals "_law_counts" = some (some (.ref f_ulaw_counts)))
    (l_ulaw_counts : K.lookup f_ulaw_counts = some ⟨oc_ulaw_counts, od_ulaw_counts, .func (PySem.W.fnOf "_law_counts" "_law_counts" (defArgs s_ulaw_counts) (defBody s_ulaw_counts) (defScope s_ulaw_counts) .none kV_ulaw_counts dc_ulaw_counts pm_ulaw_counts an_ulaw_counts cd_ulaw_counts ct_ulaw_counts), sl_ulaw_counts⟩)
    (cc_ulaw_counts : PySem.W.codeIn K cd_ulaw_counts "_law_counts" = true)
    (k_ulaw_counts : PySem.W.keepIn K (.ref f_ulaw_counts) = true)
    (a_Jar_colours : PySem.W.findIn K (.ref C_Jar) "colours" = some (some (.ref f_Jar_colours)))
    (j_Jar_colours : PySem.W.isFn K (.ref f_Jar_colours) = true)
    (l_Jar_colours : K.lookup f_Jar_colours = some ⟨oc_Jar_colours, od_Jar_colours, .func (PySem.W.fnOf "colours" "Jar.colours" (defArgs s_Jar_colours) (defBody s_Jar_colours) (defScope s_Jar_colours) .none kV_Jar_colours dc_Jar_colours pm_Jar_colours an_Jar_colours cd_Jar_colours ct_Jar_colours), sl_Jar_colours⟩)
    (cc_Jar_colours : PySem.W.codeIn K cd_Jar_colours "Jar.colours" = true)
    (k_Jar_colours : PySem.W.keepIn K (.ref f_Jar_colours) = true)
    (a_Jar_size : PySem.W.findIn K (.ref C_Jar) "size" = some (some (.ref pp_Jar_size)))
    (b_Jar_size : PySem.W.specialIn K (.ref pp_Jar_size) "__get__" = some (some (.builtin "property.__get__")))
    (c_Jar_size : PySem.W.takesIn K (.ref pp_Jar_size) = some true)
    (d_Jar_size : PySem.W.recIn K pp_Jar_size "property" = some (.ref f_Jar_size :: rest_Jar_size))
    (l_Jar_size : K.lookup f_Jar_size = some ⟨oc_Jar_size, od_Jar_size, .func (PySem.W.fnOf "size" "Jar.size" (defArgs s_Jar_size) (defBody s_Jar_size) (defScope s_Jar_size) .none kV_Jar_size dc_Jar_size pm_Jar_size an_Jar_size cd_Jar_size ct_Jar_size), sl_Jar_size⟩)
    (cc_Jar_size : PySem.W.codeIn K cd_Jar_size "Jar.size" = true)
    (k_Jar_size : PySem.W.keepIn K (.ref f_Jar_size) = true)
    (a_Jar_total : PySem.W.findIn K (.ref C_Jar) "total" = some (some (.ref pp_Jar_total)))
    (b_Jar_total : PySem.W.specialIn K (.ref pp_Jar_total) "__get__" = some (some (.builtin "property.__get__")))
    (c_Jar_total : PySem.W.takesIn K (.ref pp_Jar_total) = some true)
    (d_Jar_total : PySem.W.recIn K pp_Jar_total "property" = some (.ref f_Jar_total :: rest_Jar_total))
    (l_Jar_total : K.lookup f_Jar_total = some ⟨oc_Jar_total, od_Jar_total, .func (PySem.W.fnOf "total" "Jar.total" (defArgs s_Jar_total) (defBody s_Jar_total) (defScope s_Jar_total) .none kV_Jar_total dc_Jar_total pm_Jar_total an_Jar_total cd_Jar_total ct_Jar_total), sl_Jar_total⟩)
    (cc_Jar_total : PySem.W.codeIn K cd_Jar_total "Jar.total" = true)
    (k_Jar_total : PySem.W.keepIn K (.ref f_Jar_total) = true)
    (a_Jar_counts : PySem.W.findIn K (.ref C_Jar) "counts" = some (some (.ref f_Jar_counts)))
    (j_Jar_counts : PySem.W.isFn K (.ref f_Jar_counts) = true)
    (l_Jar_counts : K.lookup f_Jar_counts = some ⟨oc_Jar_counts, od_Jar_counts, .func (PySem.W.fnOf "counts" "Jar.counts" (defArgs s_Jar_counts) (defBody s_Jar_counts) (defScope s_Jar_counts) .none kV_Jar_counts dc_Jar_counts pm_Jar_counts an_Jar_counts cd_Jar_counts ct_Jar_counts), sl_Jar_counts⟩)
    (cc_Jar_counts : PySem.W.codeIn K cd_Jar_counts "Jar.counts" = true)
    (k_Jar_counts : PySem.W.keepIn K (.ref f_Jar_counts) = true)
    (a_Jar_uubooluu : PySem.W.findIn K (.ref C_Jar) "__bool__" = some (some (.ref f_Jar_uubooluu)))
    (j_Jar_uubooluu : PySem.W.isFn K (.ref f_Jar_uubooluu) = true)
    (l_Jar_uubooluu : K.lookup f_Jar_uubooluu = some ⟨oc_Jar_uubooluu, od_Jar_uubooluu, .func (PySem.W.fnOf "__bool__" "Jar.__bool__" (defArgs s_Jar_uubooluu) (defBody s_Jar_uubooluu) (defScope s_Jar_uubooluu) .none kV_Jar_uubooluu dc_Jar_uubooluu pm_Jar_uubooluu an_Jar_uubooluu cd_Jar_uubooluu ct_Jar_uubooluu), sl_Jar_uubooluu⟩)
    (cc_Jar_uubooluu : PySem.W.codeIn K cd_Jar_uubooluu "Jar.__bool__" = true)
    (k_Jar_uubooluu : PySem.W.keepIn K (.ref f_Jar_uubooluu) = true)
    (a_Jar_uugetitemuu : PySem.W.findIn K (.ref C_Jar) "__getitem__" = some (some (.ref f_Jar_uugetitemuu)))
    (j_Jar_uugetitemuu : PySem.W.isFn K (.ref f_Jar_uugetitemuu) = true)
    (l_Jar_uugetitemuu : K.lookup f_Jar_uugetitemuu = some ⟨oc_Jar_uugetitemuu, od_Jar_uugetitemuu, .func (PySem.W.fnOf "__getitem__" "Jar.__getitem__" (defArgs s_Jar_uugetitemuu) (defBody s_Jar_uugetitemuu) (defScope s_Jar_uugetitemuu) .none kV_Jar_uugetitemuu dc_Jar_uugetitemuu pm_Jar_uugetitemuu an_Jar_uugetitemuu cd_Jar_uugetitemuu ct_Jar_uugetitemuu), sl_Jar_uugetitemuu⟩)
    (cc_Jar_uugetitemuu : PySem.W.codeIn K cd_Jar_uugetitemuu "Jar.__getitem__" = true)
    (k_Jar_uugetitemuu : PySem.W.keepIn K (.ref f_Jar_uugetitemuu) = true)
    (a_Jar_uucontainsuu : PySem.W.findIn K (.ref C_Jar) "__contains__" = some (some (.ref f_Jar_uucontainsuu)))
    (j_Jar_uucontainsuu : PySem.W.isFn K (.ref f_Jar_uucontainsuu) = true)
    (l_Jar_uucontainsuu : K.lookup f_Jar_uucontainsuu = some ⟨oc_Jar_uucontainsuu, od_Jar_uucontainsuu, .func (PySem.W.fnOf "__contains__" "Jar.__contains__" (defArgs s_Jar_uucontainsuu) (defBody s_Jar_uucontainsuu) (defScope s_Jar_uucontainsuu) .none kV_Jar_uucontainsuu dc_Jar_uucontainsuu pm_Jar_uucontainsuu an_Jar_uucontainsuu cd_Jar_uucontainsuu ct_Jar_uucontainsuu), sl_Jar_uucontainsuu⟩)
    (cc_Jar_uucontainsuu : PySem.W.codeIn K cd_Jar_uucontainsuu "Jar.__contains__" = true)
    (k_Jar_uucontainsuu : PySem.W.keepIn K (.ref f_Jar_uucontainsuu) = true)
    (a_ulaw_check : PySem.W.nsIn K mainGlobals "_law_check" = some (some (.ref f_ulaw_check)))
    (l_ulaw_check : K.lookup f_ulaw_check = some ⟨oc_ulaw_check, od_ulaw_check, .func (PySem.W.fnOf "_law_check" "_law_check" (defArgs s_ulaw_check) (defBody s_ulaw_check) (defScope s_ulaw_check) .none kV_ulaw_check dc_ulaw_check pm_ulaw_check an_ulaw_check cd_ulaw_check ct_ulaw_check), sl_ulaw_check⟩)
    (cc_ulaw_check : PySem.W.codeIn K cd_ulaw_check "_law_check" = true)
    (k_ulaw_check : PySem.W.keepIn K (.ref f_ulaw_check) = true)
    (a_need_same_size : PySem.W.nsIn K mainGlobals "need_same_size" = some (some (.ref f_need_same_size)))
    (l_need_same_size : K.lookup f_need_same_size = some ⟨oc_need_same_size, od_need_same_size, .func (PySem.W.fnOf "need_same_size" "need_same_size" (defArgs s_need_same_size) (defBody s_need_same_size) (defScope s_need_same_size) .none kV_need_same_size dc_need_same_size pm_need_same_size an_need_same_size cd_need_same_size ct_need_same_size), sl_need_same_size⟩)
    (cc_need_same_size : PySem.W.codeIn K cd_need_same_size "need_same_size" = true)
    (k_need_same_size : PySem.W.keepIn K (.ref f_need_same_size) = true)
    (a_Jar_uuadduu : PySem.W.findIn K (.ref C_Jar) "__add__" = some (some (.ref f_Jar_uuadduu)))
    (j_Jar_uuadduu : PySem.W.isFn K (.ref f_Jar_uuadduu) = true)
    (l_Jar_uuadduu : K.lookup f_Jar_uuadduu = some ⟨oc_Jar_uuadduu, od_Jar_uuadduu, .func (PySem.W.fnOf "__add__" "Jar.__add__" (defArgs s_Jar_uuadduu) (defBody s_Jar_uuadduu) (defScope s_Jar_uuadduu) .none kV_Jar_uuadduu dc_Jar_uuadduu pm_Jar_uuadduu an_Jar_uuadduu cd_Jar_uuadduu ct_Jar_uuadduu), sl_Jar_uuadduu⟩)
    (cc_Jar_uuadduu : PySem.W.codeIn K cd_Jar_uuadduu "Jar.__add__" = true)
    (k_Jar_uuadduu : PySem.W.keepIn K (.ref f_Jar_uuadduu) = true)
    (a_Jar_uusubuu : PySem.W.findIn K (.ref C_Jar) "__sub__" = some (some (.ref f_Jar_uusubuu)))
    (j_Jar_uusubuu : PySem.W.isFn K (.ref f_Jar_uusubuu) = true)
    (l_Jar_uusubuu : K.lookup f_Jar_uusubuu = some ⟨oc_Jar_uusubuu, od_Jar_uusubuu, .func (PySem.W.fnOf "__sub__" "Jar.__sub__" (defArgs s_Jar_uusubuu) (defBody s_Jar_uusubuu) (defScope s_Jar_uusubuu) .none kV_Jar_uusubuu dc_Jar_uusubuu pm_Jar_uusubuu an_Jar_uusubuu cd_Jar_uusubuu ct_Jar_uusubuu), sl_Jar_uusubuu⟩)
    (cc_Jar_uusubuu : PySem.W.codeIn K cd_Jar_uusubuu "Jar.__sub__" = true)
    (k_Jar_uusubuu : PySem.W.keepIn K (.ref f_Jar_uusubuu) = true)
    (a_Jar_uumuluu : PySem.W.findIn K (.ref C_Jar) "__mul__" = some (some (.ref f_Jar_uumuluu)))
    (j_Jar_uumuluu : PySem.W.isFn K (.ref f_Jar_uumuluu) = true)
    (l_Jar_uumuluu : K.lookup f_Jar_uumuluu = some ⟨oc_Jar_uumuluu, od_Jar_uumuluu, .func (PySem.W.fnOf "__mul__" "Jar.__mul__" (defArgs s_Jar_uumuluu) (defBody s_Jar_uumuluu) (defScope s_Jar_uumuluu) .none kV_Jar_uumuluu dc_Jar_uumuluu pm_Jar_uumuluu an_Jar_uumuluu cd_Jar_uumuluu ct_Jar_uumuluu), sl_Jar_uumuluu⟩)
    (cc_Jar_uumuluu : PySem.W.codeIn K cd_Jar_uumuluu "Jar.__mul__" = true)
    (k_Jar_uumuluu : PySem.W.keepIn K (.ref f_Jar_uumuluu) = true)
    (a_law : PySem.W.nsIn K mainGlobals "law" = some (some (.ref f_law)))
    (l_law : K.lookup f_law = some ⟨oc_law, od_law, .func (PySem.W.fnOf "law" "law" (defArgs s_law) (defBody s_law) (defScope s_law) .none kV_law dc_law pm_law an_law cd_law ct_law), sl_law⟩)
    (cc_law : PySem.W.codeIn K cd_law "law" = true)
    (k_law : PySem.W.keepIn K (.ref f_law) = true)
    (z_len : PySem.W.nsIn K mainGlobals "len" = some none)
    (z_min : PySem.W.nsIn K mainGlobals "min" = some none)
    (z_max : PySem.W.nsIn K mainGlobals "max" = some none)
    (z_range : PySem.W.nsIn K mainGlobals "range" = some none)
    (z_list : PySem.W.nsIn K mainGlobals "list" = some none)
    (z_tuple : PySem.W.nsIn K mainGlobals "tuple" = some none)
    (mm_Jar : PySem.W.makesIn K C_Jar = true)
    (mk_Jar : PySem.W.keepIn K (.ref C_Jar) = true)
    (sf_Jar_uuadduu : PySem.W.selfFirst K C_Jar = true)
    (xn_Jar : PySem.W.findIn K (.ref C_Jar) "__ne__" = some (some (.builtin "object.__ne__")))
    (yo_Jar_NoneType : PySem.W.subIn K (.type "NoneType") (.ref C_Jar) = some false)
    (yo_Jar_bool : PySem.W.subIn K (.type "bool") (.ref C_Jar) = some false)
    (yo_Jar_int : PySem.W.subIn K (.type "int") (.ref C_Jar) = some false)
    (yo_Jar_str : PySem.W.subIn K (.type "str") (.ref C_Jar) = some false)
    (yo_Jar_list : PySem.W.subIn K (.type "list") (.ref C_Jar) = some false)
    (yo_Jar_tuple : PySem.W.subIn K (.type "tuple") (.ref C_Jar) = some false)
    (yo_Jar_dict : PySem.W.subIn K (.type "dict") (.ref C_Jar) = some false)
    (sf_Jar_uusubuu : PySem.W.selfFirst K C_Jar = true)
    (sf_Jar_uumuluu : PySem.W.selfFirst K C_Jar = true)
    (rib_Jar_mul : PySem.W.findIn K (.ref C_Jar) "__rmul__" = some none)
    (tib_mul : PySem.W.findIn K (.type "int") "__mul__" = some (some (.builtin "int.__mul__")))
    (trb_mul : PySem.W.findIn K (.type "int") "__rmul__" = some (some (.builtin "int.__rmul__")))
    (rd_Jar : PySem.W.readsIn K C_Jar (.type "type") = true)
    (ga_Jar : PySem.W.specialIn K (.ref C_Jar) "__getattribute__" = some (some (.builtin "type.__getattribute__")))
    (na_Jar_amounts : PySem.W.findIn K (.ref C_Jar) "amounts" = some none)
    (z_isinstance : PySem.W.nsIn K mainGlobals "isinstance" = some none)
    (il_Jar : PySem.W.isClsIn K C_Jar = true)
    (it_Jar : PySem.W.typeIn K (.ref C_Jar) = some (.type "type"))
    (z_enumerate : PySem.W.nsIn K mainGlobals "enumerate" = some none)
    (z_zip : PySem.W.nsIn K mainGlobals "zip" = some none)
    (z_sum : PySem.W.nsIn K mainGlobals "sum" = some none)
    (z_bool : PySem.W.nsIn K mainGlobals "bool" = some none)
    (fi_Jar_uugetitemuu : PySem.W.fnIn K f_Jar_uugetitemuu = true)
    (z_any : PySem.W.nsIn K mainGlobals "any" = some none)
    (y_MOST_COLOURS : PySem.W.nsIn K mainGlobals "MOST_COLOURS" = some (some (.int 8 tk_MOST_COLOURS)))
    (z_all : PySem.W.nsIn K mainGlobals "all" = some none)
    (qb_int_Jar : PySem.W.subIn K (.ref C_Jar) (.type "int") = some false)
    (z_int : PySem.W.nsIn K mainGlobals "int" = some none)
    (qb_bool_Jar : PySem.W.subIn K (.ref C_Jar) (.type "bool") = some false)
    (qb_list_Jar : PySem.W.subIn K (.ref C_Jar) (.type "list") = some false)
    (qb_tuple_Jar : PySem.W.subIn K (.ref C_Jar) (.type "tuple") = some false)
    : ∃ fd : FuncData, (∀ (s : Shared) (v : Value), BindsTo s fd ⟨[v], []⟩ [("_law_script", v)]) ∧ ∀ base : Heap, K.In base → base.Ns mainGlobals mg → FnOk l.prog w K mg base (L2.CX l.prog w) 6 fa fd ["_law_script"] (spLaw K) := by
  have e := hfa.symm.trans (PySem.W.mg_of X G a_law)
  have e2 : f_law = fa := by
    cases e
    rfl
  subst e2
  let T : Txt ⟨C_Jar⟩ K mg := {
    f_ulaw_pool := f_ulaw_pool,
    fd_ulaw_pool := PySem.W.fnOf "_law_pool" "_law_pool" (defArgs s_ulaw_pool) (defBody s_ulaw_pool) (defScope s_ulaw_pool) .none kV_ulaw_pool dc_ulaw_pool pm_ulaw_pool an_ulaw_pool cd_ulaw_pool ct_ulaw_pool,
    f_is_sequence := f_is_sequence,
    fd_is_sequence := PySem.W.fnOf "is_sequence" "is_sequence" (defArgs s_is_sequence) (defBody s_is_sequence) (defScope s_is_sequence) .none kV_is_sequence dc_is_sequence pm_is_sequence an_is_sequence cd_is_sequence ct_is_sequence,
    f_is_integer := f_is_integer,
    fd_is_integer := PySem.W.fnOf "is_integer" "is_integer" (defArgs s_is_integer) (defBody s_is_integer) (defScope s_is_integer) .none kV_is_integer dc_is_integer pm_is_integer an_is_integer cd_is_integer ct_is_integer,
    f_is_count := f_is_count,
    fd_is_count := PySem.W.fnOf "is_count" "is_count" (defArgs s_is_count) (defBody s_is_count) (defScope s_is_count) .none kV_is_count dc_is_count pm_is_count an_is_count cd_is_count ct_is_count,
    f_Jar_uuinituu := f_Jar_uuinituu,
    fd_Jar_uuinituu := PySem.W.fnOf "__init__" "Jar.__init__" (defArgs s_Jar_uuinituu) (defBody s_Jar_uuinituu) (defScope s_Jar_uuinituu) .none kV_Jar_uuinituu dc_Jar_uuinituu pm_Jar_uuinituu an_Jar_uuinituu cd_Jar_uuinituu ct_Jar_uuinituu,
    f_Jar_uuequu := f_Jar_uuequu,
    fd_Jar_uuequu := PySem.W.fnOf "__eq__" "Jar.__eq__" (defArgs s_Jar_uuequu) (defBody s_Jar_uuequu) (defScope s_Jar_uuequu) .none kV_Jar_uuequu dc_Jar_uuequu pm_Jar_uuequu an_Jar_uuequu cd_Jar_uuequu ct_Jar_uuequu,
    f_ulaw_beans := f_ulaw_beans,
    fd_ulaw_beans := PySem.W.fnOf "_law_beans" "_law_beans" (defArgs s_ulaw_beans) (defBody s_ulaw_beans) (defScope s_ulaw_beans) .none kV_ulaw_beans dc_ulaw_beans pm_ulaw_beans an_ulaw_beans cd_ulaw_beans ct_ulaw_beans,
    f_need_number := f_need_number,
    fd_need_number := PySem.W.fnOf "need_number" "need_number" (defArgs s_need_number) (defBody s_need_number) (defScope s_need_number) .none kV_need_number dc_need_number pm_need_number an_need_number cd_need_number ct_need_number,
    f_is_colour := f_is_colour,
    fd_is_colour := PySem.W.fnOf "is_colour" "is_colour" (defArgs s_is_colour) (defBody s_is_colour) (defScope s_is_colour) .none kV_is_colour dc_is_colour pm_is_colour an_is_colour cd_is_colour ct_is_colour,
    f_need_colours := f_need_colours,
    fd_need_colours := PySem.W.fnOf "need_colours" "need_colours" (defArgs s_need_colours) (defBody s_need_colours) (defScope s_need_colours) .none kV_need_colours dc_need_colours pm_need_colours an_need_colours cd_need_colours ct_need_colours,
    f_Jar_of_beans := f_Jar_of_beans,
    fd_Jar_of_beans := PySem.W.fnOf "of_beans" "Jar.of_beans" (defArgs s_Jar_of_beans) (defBody s_Jar_of_beans) (defScope s_Jar_of_beans) .none kV_Jar_of_beans dc_Jar_of_beans pm_Jar_of_beans an_Jar_of_beans cd_Jar_of_beans ct_Jar_of_beans,
    pp_Jar_of_beans := pp_Jar_of_beans,
    f_ulaw_draw := f_ulaw_draw,
    fd_ulaw_draw := PySem.W.fnOf "_law_draw" "_law_draw" (defArgs s_ulaw_draw) (defBody s_ulaw_draw) (defScope s_ulaw_draw) .none kV_ulaw_draw dc_ulaw_draw pm_ulaw_draw an_ulaw_draw cd_ulaw_draw ct_ulaw_draw,
    f_ulaw_counts := f_ulaw_counts,
    fd_ulaw_counts := PySem.W.fnOf "_law_counts" "_law_counts" (defArgs s_ulaw_counts) (defBody s_ulaw_counts) (defScope s_ulaw_counts) .none kV_ulaw_counts dc_ulaw_counts pm_ulaw_counts an_ulaw_counts cd_ulaw_counts ct_ulaw_counts,
    f_Jar_colours := f_Jar_colours,
    fd_Jar_colours := PySem.W.fnOf "colours" "Jar.colours" (defArgs s_Jar_colours) (defBody s_Jar_colours) (defScope s_Jar_colours) .none kV_Jar_colours dc_Jar_colours pm_Jar_colours an_Jar_colours cd_Jar_colours ct_Jar_colours,
    f_Jar_size := f_Jar_size,
    fd_Jar_size := PySem.W.fnOf "size" "Jar.size" (defArgs s_Jar_size) (defBody s_Jar_size) (defScope s_Jar_size) .none kV_Jar_size dc_Jar_size pm_Jar_size an_Jar_size cd_Jar_size ct_Jar_size,
    f_Jar_total := f_Jar_total,
    fd_Jar_total := PySem.W.fnOf "total" "Jar.total" (defArgs s_Jar_total) (defBody s_Jar_total) (defScope s_Jar_total) .none kV_Jar_total dc_Jar_total pm_Jar_total an_Jar_total cd_Jar_total ct_Jar_total,
    f_Jar_counts := f_Jar_counts,
    fd_Jar_counts := PySem.W.fnOf "counts" "Jar.counts" (defArgs s_Jar_counts) (defBody s_Jar_counts) (defScope s_Jar_counts) .none kV_Jar_counts dc_Jar_counts pm_Jar_counts an_Jar_counts cd_Jar_counts ct_Jar_counts,
    f_Jar_uubooluu := f_Jar_uubooluu,
    fd_Jar_uubooluu := PySem.W.fnOf "__bool__" "Jar.__bool__" (defArgs s_Jar_uubooluu) (defBody s_Jar_uubooluu) (defScope s_Jar_uubooluu) .none kV_Jar_uubooluu dc_Jar_uubooluu pm_Jar_uubooluu an_Jar_uubooluu cd_Jar_uubooluu ct_Jar_uubooluu,
    f_Jar_uugetitemuu := f_Jar_uugetitemuu,
    fd_Jar_uugetitemuu := PySem.W.fnOf "__getitem__" "Jar.__getitem__" (defArgs s_Jar_uugetitemuu) (defBody s_Jar_uugetitemuu) (defScope s_Jar_uugetitemuu) .none kV_Jar_uugetitemuu dc_Jar_uugetitemuu pm_Jar_uugetitemuu an_Jar_uugetitemuu cd_Jar_uugetitemuu ct_Jar_uugetitemuu,
    f_Jar_uucontainsuu := f_Jar_uucontainsuu,
    fd_Jar_uucontainsuu := PySem.W.fnOf "__contains__" "Jar.__contains__" (defArgs s_Jar_uucontainsuu) (defBody s_Jar_uucontainsuu) (defScope s_Jar_uucontainsuu) .none kV_Jar_uucontainsuu dc_Jar_uucontainsuu pm_Jar_uucontainsuu an_Jar_uucontainsuu cd_Jar_uucontainsuu ct_Jar_uucontainsuu,
    f_ulaw_check := f_ulaw_check,
    fd_ulaw_check := PySem.W.fnOf "_law_check" "_law_check" (defArgs s_ulaw_check) (defBody s_ulaw_check) (defScope s_ulaw_check) .none kV_ulaw_check dc_ulaw_check pm_ulaw_check an_ulaw_check cd_ulaw_check ct_ulaw_check,
    f_need_same_size := f_need_same_size,
    fd_need_same_size := PySem.W.fnOf "need_same_size" "need_same_size" (defArgs s_need_same_size) (defBody s_need_same_size) (defScope s_need_same_size) .none kV_need_same_size dc_need_same_size pm_need_same_size an_need_same_size cd_need_same_size ct_need_same_size,
    f_Jar_uuadduu := f_Jar_uuadduu,
    fd_Jar_uuadduu := PySem.W.fnOf "__add__" "Jar.__add__" (defArgs s_Jar_uuadduu) (defBody s_Jar_uuadduu) (defScope s_Jar_uuadduu) .none kV_Jar_uuadduu dc_Jar_uuadduu pm_Jar_uuadduu an_Jar_uuadduu cd_Jar_uuadduu ct_Jar_uuadduu,
    f_Jar_uusubuu := f_Jar_uusubuu,
    fd_Jar_uusubuu := PySem.W.fnOf "__sub__" "Jar.__sub__" (defArgs s_Jar_uusubuu) (defBody s_Jar_uusubuu) (defScope s_Jar_uusubuu) .none kV_Jar_uusubuu dc_Jar_uusubuu pm_Jar_uusubuu an_Jar_uusubuu cd_Jar_uusubuu ct_Jar_uusubuu,
    f_Jar_uumuluu := f_Jar_uumuluu,
    fd_Jar_uumuluu := PySem.W.fnOf "__mul__" "Jar.__mul__" (defArgs s_Jar_uumuluu) (defBody s_Jar_uumuluu) (defScope s_Jar_uumuluu) .none kV_Jar_uumuluu dc_Jar_uumuluu pm_Jar_uumuluu an_Jar_uumuluu cd_Jar_uumuluu ct_Jar_uumuluu,
    f_law := f_law,
    fd_law := PySem.W.fnOf "law" "law" (defArgs s_law) (defBody s_law) (defScope s_law) .none kV_law dc_law pm_law an_law cd_law ct_law,
    pp_Jar_size := pp_Jar_size,
    pp_Jar_total := pp_Jar_total,
    g_Jar := PySem.W.mg_of X G gc_Jar,
    i_Jar := ⟨⟨i1_Jar, i2_Jar, i3_Jar, i4_Jar⟩, i5_Jar, i6_Jar, i7_Jar, i8_Jar⟩,
    F_ulaw_pool := fun_mk (st := s_ulaw_pool) l_ulaw_pool cc_ulaw_pool k_ulaw_pool,
    b_ulaw_pool := (fun_mk (st := s_ulaw_pool) l_ulaw_pool cc_ulaw_pool k_ulaw_pool).binds (ps := ["_law_script", "_law_k"]) fun _ _ _ _ _ _ us hl => match us, hl with | [_, _], _ => rfl,
    m_ulaw_pool := PySem.W.mg_of X G a_ulaw_pool,
    F_is_sequence := fun_mk (st := s_is_sequence) l_is_sequence cc_is_sequence k_is_sequence,
    b_is_sequence := (fun_mk (st := s_is_sequence) l_is_sequence cc_is_sequence k_is_sequence).binds (ps := ["value"]) fun _ _ _ _ _ _ us hl => match us, hl with | [_], _ => rfl,
    m_is_sequence := PySem.W.mg_of X G a_is_sequence,
    F_is_integer := fun_mk (st := s_is_integer) l_is_integer cc_is_integer k_is_integer,
    b_is_integer := (fun_mk (st := s_is_integer) l_is_integer cc_is_integer k_is_integer).binds (ps := ["value"]) fun _ _ _ _ _ _ us hl => match us, hl with | [_], _ => rfl,
    m_is_integer := PySem.W.mg_of X G a_is_integer,
    F_is_count := fun_mk (st := s_is_count) l_is_count cc_is_count k_is_count,
    b_is_count := (fun_mk (st := s_is_count) l_is_count cc_is_count k_is_count).binds (ps := ["value"]) fun _ _ _ _ _ _ us hl => match us, hl with | [_], _ => rfl,
    m_is_count := PySem.W.mg_of X G a_is_count,
    F_Jar_uuinituu := fun_mk (st := s_Jar_uuinituu) l_Jar_uuinituu cc_Jar_uuinituu k_Jar_uuinituu,
    b_Jar_uuinituu := (fun_mk (st := s_Jar_uuinituu) l_Jar_uuinituu cc_Jar_uuinituu k_Jar_uuinituu).binds (ps := ["self", "counts"]) fun _ _ _ _ _ _ us hl => match us, hl with | [_, _], _ => rfl,
    F_Jar_uuequu := fun_mk (st := s_Jar_uuequu) l_Jar_uuequu cc_Jar_uuequu k_Jar_uuequu,
    b_Jar_uuequu := (fun_mk (st := s_Jar_uuequu) l_Jar_uuequu cc_Jar_uuequu k_Jar_uuequu).binds (ps := ["self", "other"]) fun _ _ _ _ _ _ us hl => match us, hl with | [_, _], _ => rfl,
    F_ulaw_beans := fun_mk (st := s_ulaw_beans) l_ulaw_beans cc_ulaw_beans k_ulaw_beans,
    b_ulaw_beans := (fun_mk (st := s_ulaw_beans) l_ulaw_beans cc_ulaw_beans k_ulaw_beans).binds (ps := ["_law_counts_here"]) fun _ _ _ _ _ _ us hl => match us, hl with | [_], _ => rfl,
    m_ulaw_beans := PySem.W.mg_of X G a_ulaw_beans,
    F_need_number := fun_mk (st := s_need_number) l_need_number cc_need_number k_need_number,
    b_need_number := (fun_mk (st := s_need_number) l_need_number cc_need_number k_need_number).binds (ps := ["value", "least", "greatest"]) fun _ _ _ _ _ _ us hl => match us, hl with | [_, _, _], _ => rfl,
    m_need_number := PySem.W.mg_of X G a_need_number,
    F_is_colour := fun_mk (st := s_is_colour) l_is_colour cc_is_colour k_is_colour,
    b_is_colour := (fun_mk (st := s_is_colour) l_is_colour cc_is_colour k_is_colour).binds (ps := ["value", "size"]) fun _ _ _ _ _ _ us hl => match us, hl with | [_, _], _ => rfl,
    m_is_colour := PySem.W.mg_of X G a_is_colour,
    F_need_colours := fun_mk (st := s_need_colours) l_need_colours cc_need_colours k_need_colours,
    b_need_colours := (fun_mk (st := s_need_colours) l_need_colours cc_need_colours k_need_colours).binds (ps := ["values", "size"]) fun _ _ _ _ _ _ us hl => match us, hl with | [_, _], _ => rfl,
    m_need_colours := PySem.W.mg_of X G a_need_colours,
    F_Jar_of_beans := fun_mk (st := s_Jar_of_beans) l_Jar_of_beans cc_Jar_of_beans k_Jar_of_beans,
    b_Jar_of_beans := (fun_mk (st := s_Jar_of_beans) l_Jar_of_beans cc_Jar_of_beans k_Jar_of_beans).binds (ps := ["cls", "size", "beans"]) fun _ _ _ _ _ _ us hl => match us, hl with | [_, _, _], _ => rfl,
    h_Jar_of_beans := ⟨a_Jar_of_beans, ⟨_, d_Jar_of_beans⟩, c_Jar_of_beans⟩,
    F_ulaw_draw := fun_mk (st := s_ulaw_draw) l_ulaw_draw cc_ulaw_draw k_ulaw_draw,
    b_ulaw_draw := (fun_mk (st := s_ulaw_draw) l_ulaw_draw cc_ulaw_draw k_ulaw_draw).binds (ps := ["_law_pool_here", "_law_many"]) fun _ _ _ _ _ _ us hl => match us, hl with | [_, _], _ => rfl,
    m_ulaw_draw := PySem.W.mg_of X G a_ulaw_draw,
    F_ulaw_counts := fun_mk (st := s_ulaw_counts) l_ulaw_counts cc_ulaw_counts k_ulaw_counts,
    b_ulaw_counts := (fun_mk (st := s_ulaw_counts) l_ulaw_counts cc_ulaw_counts k_ulaw_counts).binds (ps := ["_law_pool_here", "_law_size"]) fun _ _ _ _ _ _ us hl => match us, hl with | [_, _], _ => rfl,
    m_ulaw_counts := PySem.W.mg_of X G a_ulaw_counts,
    F_Jar_colours := fun_mk (st := s_Jar_colours) l_Jar_colours cc_Jar_colours k_Jar_colours,
    b_Jar_colours := (fun_mk (st := s_Jar_colours) l_Jar_colours cc_Jar_colours k_Jar_colours).binds (ps := ["self"]) fun _ _ _ _ _ _ us hl => match us, hl with | [_], _ => rfl,
    h_Jar_colours := ⟨a_Jar_colours, j_Jar_colours, k_Jar_colours⟩,
    F_Jar_size := fun_mk (st := s_Jar_size) l_Jar_size cc_Jar_size k_Jar_size,
    b_Jar_size := (fun_mk (st := s_Jar_size) l_Jar_size cc_Jar_size k_Jar_size).binds (ps := ["self"]) fun _ _ _ _ _ _ us hl => match us, hl with | [_], _ => rfl,
    F_Jar_total := fun_mk (st := s_Jar_total) l_Jar_total cc_Jar_total k_Jar_total,
    b_Jar_total := (fun_mk (st := s_Jar_total) l_Jar_total cc_Jar_total k_Jar_total).binds (ps := ["self"]) fun _ _ _ _ _ _ us hl => match us, hl with | [_], _ => rfl,
    F_Jar_counts := fun_mk (st := s_Jar_counts) l_Jar_counts cc_Jar_counts k_Jar_counts,
    b_Jar_counts := (fun_mk (st := s_Jar_counts) l_Jar_counts cc_Jar_counts k_Jar_counts).binds (ps := ["self"]) fun _ _ _ _ _ _ us hl => match us, hl with | [_], _ => rfl,
    h_Jar_counts := ⟨a_Jar_counts, j_Jar_counts, k_Jar_counts⟩,
    F_Jar_uubooluu := fun_mk (st := s_Jar_uubooluu) l_Jar_uubooluu cc_Jar_uubooluu k_Jar_uubooluu,
    b_Jar_uubooluu := (fun_mk (st := s_Jar_uubooluu) l_Jar_uubooluu cc_Jar_uubooluu k_Jar_uubooluu).binds (ps := ["self"]) fun _ _ _ _ _ _ us hl => match us, hl with | [_], _ => rfl,
    F_Jar_uugetitemuu := fun_mk (st := s_Jar_uugetitemuu) l_Jar_uugetitemuu cc_Jar_uugetitemuu k_Jar_uugetitemuu,
    b_Jar_uugetitemuu := (fun_mk (st := s_Jar_uugetitemuu) l_Jar_uugetitemuu cc_Jar_uugetitemuu k_Jar_uugetitemuu).binds (ps := ["self", "at"]) fun _ _ _ _ _ _ us hl => match us, hl with | [_, _], _ => rfl,
    F_Jar_uucontainsuu := fun_mk (st := s_Jar_uucontainsuu) l_Jar_uucontainsuu cc_Jar_uucontainsuu k_Jar_uucontainsuu,
    b_Jar_uucontainsuu := (fun_mk (st := s_Jar_uucontainsuu) l_Jar_uucontainsuu cc_Jar_uucontainsuu k_Jar_uucontainsuu).binds (ps := ["self", "x"]) fun _ _ _ _ _ _ us hl => match us, hl with | [_, _], _ => rfl,
    F_ulaw_check := fun_mk (st := s_ulaw_check) l_ulaw_check cc_ulaw_check k_ulaw_check,
    b_ulaw_check := (fun_mk (st := s_ulaw_check) l_ulaw_check cc_ulaw_check k_ulaw_check).binds (ps := ["_law_jar", "_law_counts_here", "_law_size"]) fun _ _ _ _ _ _ us hl => match us, hl with | [_, _, _], _ => rfl,
    m_ulaw_check := PySem.W.mg_of X G a_ulaw_check,
    F_need_same_size := fun_mk (st := s_need_same_size) l_need_same_size cc_need_same_size k_need_same_size,
    b_need_same_size := (fun_mk (st := s_need_same_size) l_need_same_size cc_need_same_size k_need_same_size).binds (ps := ["one", "other"]) fun _ _ _ _ _ _ us hl => match us, hl with | [_, _], _ => rfl,
    m_need_same_size := PySem.W.mg_of X G a_need_same_size,
    F_Jar_uuadduu := fun_mk (st := s_Jar_uuadduu) l_Jar_uuadduu cc_Jar_uuadduu k_Jar_uuadduu,
    b_Jar_uuadduu := (fun_mk (st := s_Jar_uuadduu) l_Jar_uuadduu cc_Jar_uuadduu k_Jar_uuadduu).binds (ps := ["self", "other"]) fun _ _ _ _ _ _ us hl => match us, hl with | [_, _], _ => rfl,
    F_Jar_uusubuu := fun_mk (st := s_Jar_uusubuu) l_Jar_uusubuu cc_Jar_uusubuu k_Jar_uusubuu,
    b_Jar_uusubuu := (fun_mk (st := s_Jar_uusubuu) l_Jar_uusubuu cc_Jar_uusubuu k_Jar_uusubuu).binds (ps := ["self", "other"]) fun _ _ _ _ _ _ us hl => match us, hl with | [_, _], _ => rfl,
    F_Jar_uumuluu := fun_mk (st := s_Jar_uumuluu) l_Jar_uumuluu cc_Jar_uumuluu k_Jar_uumuluu,
    b_Jar_uumuluu := (fun_mk (st := s_Jar_uumuluu) l_Jar_uumuluu cc_Jar_uumuluu k_Jar_uumuluu).binds (ps := ["self", "other"]) fun _ _ _ _ _ _ us hl => match us, hl with | [_, _], _ => rfl,
    F_law := fun_mk (st := s_law) l_law cc_law k_law,
    b_law := (fun_mk (st := s_law) l_law cc_law k_law).binds (ps := ["_law_script"]) fun _ _ _ _ _ _ us hl => match us, hl with | [_], _ => rfl,
    m_law := PySem.W.mg_of X G a_law,
    n_len := PySem.W.mg_none_of X G z_len,
    n_min := PySem.W.mg_none_of X G z_min,
    n_max := PySem.W.mg_none_of X G z_max,
    n_range := PySem.W.mg_none_of X G z_range,
    n_list := PySem.W.mg_none_of X G z_list,
    n_tuple := PySem.W.mg_none_of X G z_tuple,
    mk_Jar := ⟨mm_Jar, a_Jar_uuinituu, j_Jar_uuinituu, mk_Jar⟩,
    s_Jar_add := a_Jar_uuadduu,
    f_Jar_add := j_Jar_uuadduu,
    e_Jar_add := sf_Jar_uuadduu,
    s_Jar_eq := a_Jar_uuequu,
    f_Jar_eq := j_Jar_uuequu,
    x_Jar_ne := xn_Jar,
    k_Jar := (by
    refine DL.okTg_ok ⟨⟨i1_Jar, i2_Jar, i3_Jar, i4_Jar⟩, i5_Jar, i6_Jar, i7_Jar, i8_Jar⟩ ?_
    intro t ht
    simp only [List.mem_cons, List.not_mem_nil, or_false] at ht
    rcases ht with rfl | rfl | rfl | rfl | rfl | rfl | rfl
    · exact yo_Jar_NoneType
    · exact yo_Jar_bool
    · exact yo_Jar_int
    · exact yo_Jar_str
    · exact yo_Jar_list
    · exact yo_Jar_tuple
    · exact yo_Jar_dict),
    s_Jar_sub := a_Jar_uusubuu,
    f_Jar_sub := j_Jar_uusubuu,
    e_Jar_sub := sf_Jar_uusubuu,
    s_Jar_mul := a_Jar_uumuluu,
    f_Jar_mul := j_Jar_uumuluu,
    e_Jar_mul := sf_Jar_uumuluu,
    ri_Jar_mul := rib_Jar_mul,
    ti_Jar_mul := tib_mul,
    tr_Jar_mul := trb_mul,
    ui_Jar := yo_Jar_int,
    r_Jar := ⟨rd_Jar, ga_Jar⟩,
    a_Jar_amounts := na_Jar_amounts,
    n_isinstance := PySem.W.mg_none_of X G z_isinstance,
    y_Jar := (by
    intro t ht
    simp only [List.mem_cons, List.not_mem_nil, or_false] at ht
    rcases ht with rfl | rfl | rfl | rfl | rfl | rfl | rfl
    · exact DL.kit_to (x := .none) (.inr trivial) il_Jar it_Jar yo_Jar_NoneType
    · exact DL.kit_to (x := .none) (.inr trivial) il_Jar it_Jar yo_Jar_bool
    · exact DL.kit_to (x := .none) (.inr trivial) il_Jar it_Jar yo_Jar_int
    · exact DL.kit_to (x := .none) (.inr trivial) il_Jar it_Jar yo_Jar_str
    · exact DL.kit_to (x := .none) (.inr trivial) il_Jar it_Jar yo_Jar_list
    · exact DL.kit_to (x := .none) (.inr trivial) il_Jar it_Jar yo_Jar_tuple
    · exact DL.kit_to (x := .none) (.inr trivial) il_Jar it_Jar yo_Jar_dict),
    z_Jar := (by
    intro C hC
    cases hC),
    n_enumerate := PySem.W.mg_none_of X G z_enumerate,
    n_zip := PySem.W.mg_none_of X G z_zip,
    p_Jar_size := ⟨a_Jar_size, b_Jar_size, c_Jar_size, ⟨_, d_Jar_size⟩⟩,
    p_Jar_total := ⟨a_Jar_total, b_Jar_total, c_Jar_total, ⟨_, d_Jar_total⟩⟩,
    n_sum := PySem.W.mg_none_of X G z_sum,
    s_Jar_bool := a_Jar_uubooluu,
    f_Jar_bool := j_Jar_uubooluu,
    n_bool := PySem.W.mg_none_of X G z_bool,
    s_Jar_getitem := a_Jar_uugetitemuu,
    f_Jar_getitem := j_Jar_uugetitemuu,
    n_Jar_getitem := fi_Jar_uugetitemuu,
    s_Jar_contains := a_Jar_uucontainsuu,
    f_Jar_contains := j_Jar_uucontainsuu,
    n_any := PySem.W.mg_none_of X G z_any,
    c_MOST_COLOURS := ⟨_, PySem.W.mg_of X G y_MOST_COLOURS⟩,
    n_all := PySem.W.mg_none_of X G z_all,
    q_int := (by
    intro C hC
    simp only [List.mem_cons, List.not_mem_nil, or_false] at hC
    rcases hC with rfl
    · exact ⟨⟨⟨i1_Jar, i2_Jar, i3_Jar, i4_Jar⟩, i5_Jar, i6_Jar, i7_Jar, i8_Jar⟩, DL.kit_rt qb_int_Jar⟩),
    n_int := PySem.W.mg_none_of X G z_int,
    q_bool := (by
    intro C hC
    simp only [List.mem_cons, List.not_mem_nil, or_false] at hC
    rcases hC with rfl
    · exact ⟨⟨⟨i1_Jar, i2_Jar, i3_Jar, i4_Jar⟩, i5_Jar, i6_Jar, i7_Jar, i8_Jar⟩, DL.kit_rt qb_bool_Jar⟩),
    q_list := (by
    intro C hC
    simp only [List.mem_cons, List.not_mem_nil, or_false] at hC
    rcases hC with rfl
    · exact ⟨⟨⟨i1_Jar, i2_Jar, i3_Jar, i4_Jar⟩, i5_Jar, i6_Jar, i7_Jar, i8_Jar⟩, DL.kit_rt qb_list_Jar⟩),
    q_tuple := (by
    intro C hC
    simp only [List.mem_cons, List.not_mem_nil, or_false] at hC
    rcases hC with rfl
    · exact ⟨⟨⟨i1_Jar, i2_Jar, i3_Jar, i4_Jar⟩, i5_Jar, i6_Jar, i7_Jar, i8_Jar⟩, DL.kit_rt qb_tuple_Jar⟩) }
  exact ⟨PySem.W.fnOf "law" "law" (defArgs s_law) (defBody s_law) (defScope s_law) .none kV_law dc_law pm_law an_law cd_law ct_law, fun s v => .of_eq rfl, fun base _ _ => (ok_law (P := l.prog) (w := w) (base := base) T).imp (law_sp (main_ok ⟨C_Jar⟩ (trivial)))⟩
end Law
open PySem PySem.W PyProof.Rows
set_option maxRecDepth 100000 in
set_option maxHeartbeats 0 in
theorem PySem.Challenge.cw_beanjars_k04_jars_holds : PySem.Challenge.rw_beanjars_k04_jars.Holds := by
  w_on; o_law; k_head; (case hw => w_witness2)
  k_fill
  refine L2.walk_of (l := PySem.Challenge.rw_beanjars_k04_jars) (n := 63) (k := 6) (x := "_law_script") (CX := fun w => L2.CX PySem.Challenge.rw_beanjars_k04_jars.prog w) (sp := fun w => DL.spLaw _) rfl (by decide) rfl ⟨rfl, by decide, by decide⟩ (fun w h Y => PySem.W.kIn_of Y) ?F (fun _ _ a ns hl _ hS => ⟨a, ns, rfl, hS, hl, fun _ => rfl⟩) (fun _ _ _ _ _ z => DL.cx_no z)
  case F =>
    intro w mg fa h KX G hmg
    refine' Law.all_mk KX G hmg ?gc_Jar ?i1_Jar ?i2_Jar ?i3_Jar ?i4_Jar ?i5_Jar ?i6_Jar ?i7_Jar ?i8_Jar ?a_ulaw_pool ?l_ulaw_pool ?cc_ulaw_pool ?k_ulaw_pool ?a_is_sequence ?l_is_sequence ?cc_is_sequence ?k_is_sequence ?a_is_integer ?l_is_integer ?cc_is_integer ?k_is_integer ?a_is_count ?l_is_count ?cc_is_count ?k_is_count ?a_Jar_uuinituu ?j_Jar_uuinituu ?l_Jar_uuinituu ?cc_Jar_uuinituu ?k_Jar_uuinituu ?a_Jar_uuequu ?j_Jar_uuequu ?l_Jar_uuequu ?cc_Jar_uuequu ?k_Jar_uuequu ?a_ulaw_beans ?l_ulaw_beans ?cc_ulaw_beans ?k_ulaw_beans ?a_need_number ?l_need_number ?cc_need_number ?k_need_number ?a_is_colour ?l_is_colour ?cc_is_colour ?k_is_colour ?a_need_colours ?l_need_colours ?cc_need_colours ?k_need_colours ?a_Jar_of_beans ?d_Jar_of_beans ?c_Jar_of_beans ?l_Jar_of_beans ?cc_Jar_of_beans ?k_Jar_of_beans ?a_ulaw_draw ?l_ulaw_draw ?cc_ulaw_draw ?k_ulaw_draw ?a_ulaw_counts ?l_ulaw_counts ?cc_ulaw_counts ?k_ulaw_counts ?a_Jar_colours ?j_Jar_colours ?l_Jar_colours ?cc_Jar_colours ?k_Jar_colours ?a_Jar_size ?b_Jar_size ?c_Jar_size ?d_Jar_size ?l_Jar_size ?cc_Jar_size ?k_Jar_size ?a_Jar_total ?b_Jar_total ?c_Jar_total ?d_Jar_total ?l_Jar_total ?cc_Jar_total ?k_Jar_total ?a_Jar_counts ?j_Jar_counts ?l_Jar_counts ?cc_Jar_counts ?k_Jar_counts ?a_Jar_uubooluu ?j_Jar_uubooluu ?l_Jar_uubooluu ?cc_Jar_uubooluu ?k_Jar_uubooluu ?a_Jar_uugetitemuu ?j_Jar_uugetitemuu ?l_Jar_uugetitemuu ?cc_Jar_uugetitemuu ?k_Jar_uugetitemuu ?a_Jar_uucontainsuu ?j_Jar_uucontainsuu ?l_Jar_uucontainsuu ?cc_Jar_uucontainsuu ?k_Jar_uucontainsuu ?a_ulaw_check ?l_ulaw_check ?cc_ulaw_check ?k_ulaw_check ?a_need_same_size ?l_need_same_size ?cc_need_same_size ?k_need_same_size ?a_Jar_uuadduu ?j_Jar_uuadduu ?l_Jar_uuadduu ?cc_Jar_uuadduu ?k_Jar_uuadduu ?a_Jar_uusubuu ?j_Jar_uusubuu ?l_Jar_uusubuu ?cc_Jar_uusubuu ?k_Jar_uusubuu ?a_Jar_uumuluu ?j_Jar_uumuluu ?l_Jar_uumuluu ?cc_Jar_uumuluu ?k_Jar_uumuluu ?a_law ?l_law ?cc_law ?k_law ?z_len ?z_min ?z_max ?z_range ?z_list ?z_tuple ?mm_Jar ?mk_Jar ?sf_Jar_uuadduu ?xn_Jar ?yo_Jar_NoneType ?yo_Jar_bool ?yo_Jar_int ?yo_Jar_str ?yo_Jar_list ?yo_Jar_tuple ?yo_Jar_dict ?sf_Jar_uusubuu ?sf_Jar_uumuluu ?rib_Jar_mul ?tib_mul ?trb_mul ?rd_Jar ?ga_Jar ?na_Jar_amounts ?z_isinstance ?il_Jar ?it_Jar ?z_enumerate ?z_zip ?z_sum ?z_bool ?fi_Jar_uugetitemuu ?z_any ?y_MOST_COLOURS ?z_all ?qb_int_Jar ?z_int ?qb_bool_Jar ?qb_list_Jar ?qb_tuple_Jar
    (case gc_Jar => k_is)
    (case i1_Jar => k_is)
    (case i2_Jar => k_is)
    (case i3_Jar => k_is)
    (case i4_Jar => k_is)
    (case i5_Jar => k_is)
    (case i6_Jar => k_is)
    (case i7_Jar => k_is)
    (case i8_Jar => k_is)
    (case a_ulaw_pool => k_is)
    (case l_ulaw_pool => k_is)
    (case cc_ulaw_pool => k_is)
    (case k_ulaw_pool => k_is)
    (case a_is_sequence => k_is)
    (case l_is_sequence => k_is)
    (case cc_is_sequence => k_is)
    (case k_is_sequence => k_is)
    (case a_is_integer => k_is)
    (case l_is_integer => k_is)
    (case cc_is_integer => k_is)
    (case k_is_integer => k_is)
    (case a_is_count => k_is)
    (case l_is_count => k_is)
    (case cc_is_count => k_is)
    (case k_is_count => k_is)
    (case a_Jar_uuinituu => k_is)
    (case j_Jar_uuinituu => k_is)
    (case l_Jar_uuinituu => k_is)
    (case cc_Jar_uuinituu => k_is)
    (case k_Jar_uuinituu => k_is)
    (case a_Jar_uuequu => k_is)
    (case j_Jar_uuequu => k_is)
    (case l_Jar_uuequu => k_is)
    (case cc_Jar_uuequu => k_is)
    (case k_Jar_uuequu => k_is)
    (case a_ulaw_beans => k_is)
    (case l_ulaw_beans => k_is)
    (case cc_ulaw_beans => k_is)
    (case k_ulaw_beans => k_is)
    (case a_need_number => k_is)
    (case l_need_number => k_is)
    (case cc_need_number => k_is)
    (case k_need_number => k_is)
    (case a_is_colour => k_is)
    (case l_is_colour => k_is)
    (case cc_is_colour => k_is)
    (case k_is_colour => k_is)
    (case a_need_colours => k_is)
    (case l_need_colours => k_is)
    (case cc_need_colours => k_is)
    (case k_need_colours => k_is)
    (case a_Jar_of_beans => k_is)
    (case d_Jar_of_beans => k_is)
    (case c_Jar_of_beans => k_is)
    (case l_Jar_of_beans => k_is)
    (case cc_Jar_of_beans => k_is)
    (case k_Jar_of_beans => k_is)
    (case a_ulaw_draw => k_is)
    (case l_ulaw_draw => k_is)
    (case cc_ulaw_draw => k_is)
    (case k_ulaw_draw => k_is)
    (case a_ulaw_counts => k_is)
    (case l_ulaw_counts => k_is)
    (case cc_ulaw_counts => k_is)
    (case k_ulaw_counts => k_is)
    (case a_Jar_colours => k_is)
    (case j_Jar_colours => k_is)
    (case l_Jar_colours => k_is)
    (case cc_Jar_colours => k_is)
    (case k_Jar_colours => k_is)
    (case a_Jar_size => k_is)
    (case b_Jar_size => k_is)
    (case c_Jar_size => k_is)
    (case d_Jar_size => k_is)
    (case l_Jar_size => k_is)
    (case cc_Jar_size => k_is)
    (case k_Jar_size => k_is)
    (case a_Jar_total => k_is)
    (case b_Jar_total => k_is)
    (case c_Jar_total => k_is)
    (case d_Jar_total => k_is)
    (case l_Jar_total => k_is)
    (case cc_Jar_total => k_is)
    (case k_Jar_total => k_is)
    (case a_Jar_counts => k_is)
    (case j_Jar_counts => k_is)
    (case l_Jar_counts => k_is)
    (case cc_Jar_counts => k_is)
    (case k_Jar_counts => k_is)
    (case a_Jar_uubooluu => k_is)
    (case j_Jar_uubooluu => k_is)
    (case l_Jar_uubooluu => k_is)
    (case cc_Jar_uubooluu => k_is)
    (case k_Jar_uubooluu => k_is)
    (case a_Jar_uugetitemuu => k_is)
    (case j_Jar_uugetitemuu => k_is)
    (case l_Jar_uugetitemuu => k_is)
    (case cc_Jar_uugetitemuu => k_is)
    (case k_Jar_uugetitemuu => k_is)
    (case a_Jar_uucontainsuu => k_is)
    (case j_Jar_uucontainsuu => k_is)
    (case l_Jar_uucontainsuu => k_is)
    (case cc_Jar_uucontainsuu => k_is)
    (case k_Jar_uucontainsuu => k_is)
    (case a_ulaw_check => k_is)
    (case l_ulaw_check => k_is)
    (case cc_ulaw_check => k_is)
    (case k_ulaw_check => k_is)
    (case a_need_same_size => k_is)
    (case l_need_same_size => k_is)
    (case cc_need_same_size => k_is)
    (case k_need_same_size => k_is)
    (case a_Jar_uuadduu => k_is)
    (case j_Jar_uuadduu => k_is)
    (case l_Jar_uuadduu => k_is)
    (case cc_Jar_uuadduu => k_is)
    (case k_Jar_uuadduu => k_is)
    (case a_Jar_uusubuu => k_is)
    (case j_Jar_uusubuu => k_is)
    (case l_Jar_uusubuu => k_is)
    (case cc_Jar_uusubuu => k_is)
    (case k_Jar_uusubuu => k_is)
    (case a_Jar_uumuluu => k_is)
    (case j_Jar_uumuluu => k_is)
    (case l_Jar_uumuluu => k_is)
    (case cc_Jar_uumuluu => k_is)
    (case k_Jar_uumuluu => k_is)
    (case a_law => k_is)
    (case l_law => k_is)
    (case cc_law => k_is)
    (case k_law => k_is)
    (case z_len => k_is)
    (case z_min => k_is)
    (case z_max => k_is)
    (case z_range => k_is)
    (case z_list => k_is)
    (case z_tuple => k_is)
    (case mm_Jar => k_is)
    (case mk_Jar => k_is)
    (case sf_Jar_uuadduu => k_is)
    (case xn_Jar => k_is)
    (case yo_Jar_NoneType => k_is)
    (case yo_Jar_bool => k_is)
    (case yo_Jar_int => k_is)
    (case yo_Jar_str => k_is)
    (case yo_Jar_list => k_is)
    (case yo_Jar_tuple => k_is)
    (case yo_Jar_dict => k_is)
    (case sf_Jar_uusubuu => k_is)
    (case sf_Jar_uumuluu => k_is)
    (case rib_Jar_mul => k_is)
    (case tib_mul => k_is)
    (case trb_mul => k_is)
    (case rd_Jar => k_is)
    (case ga_Jar => k_is)
    (case na_Jar_amounts => k_is)
    (case z_isinstance => k_is)
    (case il_Jar => k_is)
    (case it_Jar => k_is)
    (case z_enumerate => k_is)
    (case z_zip => k_is)
    (case z_sum => k_is)
    (case z_bool => k_is)
    (case fi_Jar_uugetitemuu => k_is)
    (case z_any => k_is)
    (case y_MOST_COLOURS => k_is)
    (case z_all => k_is)
    (case qb_int_Jar => k_is)
    (case z_int => k_is)
    (case qb_bool_Jar => k_is)
    (case qb_list_Jar => k_is)
    (case qb_tuple_Jar => k_is)
