import PyProof.Rows.All
import HandS.ForMost
import HandS.Property
import HandS.OwnEq
import HandS.IsInst
import HandS.Wide
import HandS.Conv
import HandS.Style
import HandS.Flow
import HandS.ForExc
import HandS.ClsMeth
import HandS.SortInts
import HandS.TryMany
import HandS.Deep
import HandS.CallLocal
import HandS.Zip
import HandS.TupAny
import KE.GoesZip
import KE.GoesEnum
import KE.KTupSum
import Lean
import PySem.Challenge.RW_beanjars_k10_disputes
set_option Elab.async false
set_option linter.all false
set_option maxRecDepth 100000
set_option maxHeartbeats 4000000
section
/-! Data over the hand layer: a def as a plain function of data and a store of lists and instances that may be changed. -/
namespace DL
open PySem PySem.Spec PyProof.Rows L2

inductive D where
  | non | bl (b : Bool) | int (i : Int) | str (x : Str)
  | lst (xs : List D) | tup (xs : List D) | fl (xs : List D)
  | ins (C : Addr) (fs : List (Str × D))
  | exc (C : Addr) (fs : List (Str × D))
  | dct (kvs : List (Key × D))
  | obj (i : Nat)
  | fn (f : Addr)

inductive Cell where
  | dead | lst (xs : List D) | ins (C : Addr) (fs : List (Str × D))
abbrev Sto := List Cell
abbrev Mu := List (Option Addr)

/-- what is hidden: the store's places, and what the surroundings hold -/
def hid (μ : Mu) (ν : List Addr) (H : Hp) : Hp := open Classical in fun a => if some a ∈ μ ∨ a ∈ ν then none else H a
theorem hid_some {μ : Mu} {ν : List Addr} {H : Hp} {a : Addr} {o : HO} (h : hid μ ν H a = some o) : H a = some o ∧ some a ∉ μ ∧ a ∉ ν := by
  unfold hid at h
  split at h
  · cases h
  · rename_i q
    exact ⟨h, fun z => q (.inl z), fun z => q (.inr z)⟩
theorem hid_of {μ : Mu} {ν : List Addr} {H : Hp} {a : Addr} (h1 : some a ∉ μ) (h2 : a ∉ ν) : hid μ ν H a = H a := by
  unfold hid
  rw [if_neg (fun z => z.elim h1 h2)]
theorem hid_sub {μ : Mu} {ν : List Addr} {H : Hp} : Same (hid μ ν H) H := fun a o h => (hid_some h).1

mutual
def Rep (K : PySem.W.Frag) (μ : Mu) (G : Hp) : D → V → Prop
  | .non, v => v = .non
  | .bl b, v => v = .bl b
  | .int i, v => v = .int i
  | .str x, v => v = .str x
  | .lst xs, v => ∃ a vs, v = .ref a ∧ G a = some (.lst vs) ∧ xs.length ≤ sizeLine ∧ Reps K μ G xs vs
  | .fl xs, v => ∃ a vs, v = .ref a ∧ SqL K G a vs ∧ xs.length ≤ sizeLine ∧ Reps K μ G xs vs
  | .tup xs, v => ∃ a vs, v = .ref a ∧ SqT K G a vs ∧ xs.length ≤ sizeLine ∧ Reps K μ G xs vs
  | .ins C fs, v => ∃ a dx gs, v = .ref a ∧ G a = some (.ins C dx gs) ∧ FReps K μ G fs gs
  | .exc _ _, _ => False
  | .dct kvs, v => ∃ a ws, v = .ref a ∧ Rd G a (.dK ws) ∧ KReps K μ G kvs ws
  | .obj i, v => i < μ.length ∧ ∀ a, μ[i]? = some (some a) → v = .ref a
  | .fn f, v => v = .ref f
def Reps (K : PySem.W.Frag) (μ : Mu) (G : Hp) : List D → List V → Prop
  | [], vs => vs = []
  | d :: ds, vs => ∃ v r, vs = v :: r ∧ Rep K μ G d v ∧ Reps K μ G ds r
def FReps (K : PySem.W.Frag) (μ : Mu) (G : Hp) : List (Str × D) → List (Str × V) → Prop
  | [], vs => vs = []
  | p :: ds, vs => ∃ v r, vs = (p.1, v) :: r ∧ Rep K μ G p.2 v ∧ FReps K μ G ds r
def KReps (K : PySem.W.Frag) (μ : Mu) (G : Hp) : List (Key × D) → List (Key × V) → Prop
  | [], vs => vs = []
  | p :: ds, vs => ∃ v r, vs = (p.1, v) :: r ∧ Rep K μ G p.2 v ∧ KReps K μ G ds r
end

section
variable {K : PySem.W.Frag} {μ μ' : Mu} {G G' : Hp}
/-- the store's places: more may come, some may be let go -/
structure MuExt (μ μ' : Mu) : Prop where
  len : μ.length ≤ μ'.length
  at_ : ∀ (i : Nat) (a : Addr), i < μ.length → μ'[i]? = some (some a) → μ[i]? = some (some a)
theorem MuExt.refl : MuExt μ μ := ⟨Nat.le_refl _, fun _ _ _ h => h⟩
theorem MuExt.trans {μ2 : Mu} (a : MuExt μ μ') (b : MuExt μ' μ2) : MuExt μ μ2 :=
  ⟨Nat.le_trans a.len b.len, fun i x h e => a.at_ i x h (b.at_ i x (Nat.lt_of_lt_of_le h a.len) e)⟩

theorem rd_same {H H' : Hp} {a : Addr} {u : HO} (e : Same H H') (h : Rd H a u) : Rd H' a u := by
  rcases h with h | ⟨o, h⟩
  · exact .inl (e _ _ h)
  · exact .inr ⟨o, e _ _ h⟩
theorem sqT_same {K : PySem.W.Frag} {H H' : Hp} {a : Addr} {xs : List V} (e : Same H H') (h : SqT K H a xs) : SqT K H' a xs := h.elim (fun z => .inl (rd_same e z)) .inr
mutual
theorem Rep.mono (m : MuExt μ μ') (e : Same G G') : ∀ (d : D) (v : V), Rep K μ G d v → Rep K μ' G' d v
  | .non, v, h => h
  | .bl b, v, h => h
  | .int i, v, h => h
  | .str x, v, h => h
  | .lst xs, v, h => by
    unfold Rep at h ⊢
    obtain ⟨a, vs, e1, e2, e3, e4⟩ := h
    exact ⟨a, vs, e1, e _ _ e2, e3, Reps.mono m e xs vs e4⟩
  | .fl xs, v, h => by
    unfold Rep at h ⊢
    obtain ⟨a, vs, e1, e2, e3, e4⟩ := h
    exact ⟨a, vs, e1, e.seq e2, e3, Reps.mono m e xs vs e4⟩
  | .tup xs, v, h => by
    unfold Rep at h ⊢
    obtain ⟨a, vs, e1, e2, e3, e4⟩ := h
    exact ⟨a, vs, e1, sqT_same e e2, e3, Reps.mono m e xs vs e4⟩
  | .ins C fs, v, h => by
    unfold Rep at h ⊢
    obtain ⟨a, dx, gs, e1, e2, e3⟩ := h
    exact ⟨a, dx, gs, e1, e _ _ e2, FReps.mono m e fs gs e3⟩
  | .exc _ _, v, h => h
  | .fn _, v, h => h
  | .dct kvs, v, h => by
    unfold Rep at h ⊢
    obtain ⟨a, ws, e1, e2, e3⟩ := h
    exact ⟨a, ws, e1, rd_same e e2, KReps.mono m e kvs ws e3⟩
  | .obj i, v, h => by
    unfold Rep at h ⊢
    exact ⟨Nat.lt_of_lt_of_le h.1 m.len, fun a q => h.2 a (m.at_ i a h.1 q)⟩
theorem Reps.mono (m : MuExt μ μ') (e : Same G G') : ∀ (ds : List D) (vs : List V), Reps K μ G ds vs → Reps K μ' G' ds vs
  | [], vs, h => h
  | d :: ds, vs, h => by
    unfold Reps at h ⊢
    obtain ⟨v, r, e1, e2, e3⟩ := h
    exact ⟨v, r, e1, Rep.mono m e d v e2, Reps.mono m e ds r e3⟩
theorem FReps.mono (m : MuExt μ μ') (e : Same G G') : ∀ (ds : List (Str × D)) (vs : List (Str × V)), FReps K μ G ds vs → FReps K μ' G' ds vs
  | [], vs, h => h
  | p :: ds, vs, h => by
    unfold FReps at h ⊢
    obtain ⟨v, r, e1, e2, e3⟩ := h
    exact ⟨v, r, e1, Rep.mono m e p.2 v e2, FReps.mono m e ds r e3⟩
theorem KReps.mono (m : MuExt μ μ') (e : Same G G') : ∀ (ds : List (Key × D)) (vs : List (Key × V)), KReps K μ G ds vs → KReps K μ' G' ds vs
  | [], vs, h => h
  | p :: ds, vs, h => by
    unfold KReps at h ⊢
    obtain ⟨v, r, e1, e2, e3⟩ := h
    exact ⟨v, r, e1, Rep.mono m e p.2 v e2, KReps.mono m e ds r e3⟩
end
theorem Reps.len : ∀ {ds : List D} {vs : List V}, Reps K μ G ds vs → ds.length = vs.length
  | [], vs, h => by unfold Reps at h; subst h; rfl
  | d :: ds, vs, h => by
    unfold Reps at h
    obtain ⟨v, r, rfl, _, e3⟩ := h
    rw [List.length_cons, List.length_cons, Reps.len e3]
theorem Reps.get : ∀ {ds : List D} {vs : List V} {i : Nat} {d : D}, Reps K μ G ds vs → ds[i]? = some d → ∃ v, vs[i]? = some v ∧ Rep K μ G d v
  | [], _, i, d, _, e => by simp at e
  | d0 :: ds, vs, 0, d, h, e => by
    unfold Reps at h
    obtain ⟨v, r, rfl, e2, e3⟩ := h
    simp at e; subst e
    exact ⟨v, rfl, e2⟩
  | d0 :: ds, vs, i + 1, d, h, e => by
    unfold Reps at h
    obtain ⟨v, r, rfl, e2, e3⟩ := h
    obtain ⟨u, h1, h2⟩ := Reps.get (i := i) e3 (by simpa using e)
    exact ⟨u, by simpa using h1, h2⟩
theorem Reps.get' : ∀ {ds : List D} {vs : List V} {i : Nat} {v : V}, Reps K μ G ds vs → vs[i]? = some v → ∃ d, ds[i]? = some d ∧ Rep K μ G d v
  | [], vs, i, d, h, e => by unfold Reps at h; subst h; simp at e
  | d0 :: ds, vs, 0, d, h, e => by
    unfold Reps at h
    obtain ⟨v, r, rfl, e2, e3⟩ := h
    simp at e; subst e
    exact ⟨d0, rfl, e2⟩
  | d0 :: ds, vs, i + 1, d, h, e => by
    unfold Reps at h
    obtain ⟨v, r, rfl, e2, e3⟩ := h
    obtain ⟨u, h1, h2⟩ := Reps.get' (i := i) e3 (by simpa using e)
    exact ⟨u, by simpa using h1, h2⟩
theorem Reps.cons {d : D} {v : V} {ds : List D} {vs : List V} (h : Rep K μ G d v) (hs : Reps K μ G ds vs) : Reps K μ G (d :: ds) (v :: vs) := by
  unfold Reps
  exact ⟨v, vs, rfl, h, hs⟩
theorem Reps.nil : Reps K μ G [] [] := by unfold Reps; rfl
theorem Reps.append : ∀ {ds es : List D} {vs ws : List V}, Reps K μ G ds vs → Reps K μ G es ws → Reps K μ G (ds ++ es) (vs ++ ws)
  | [], es, vs, ws, h, g => by unfold Reps at h; subst h; exact g
  | d :: ds, es, vs, ws, h, g => by
    unfold Reps at h
    obtain ⟨v, r, rfl, e2, e3⟩ := h
    exact Reps.cons e2 (Reps.append e3 g)
theorem Reps.one {d : D} {v : V} (h : Rep K μ G d v) : Reps K μ G [d] [v] := Reps.cons h Reps.nil
theorem Reps.set {d : D} {v : V} (h : Rep K μ G d v) : ∀ {ds : List D} {vs : List V} (i : Nat), Reps K μ G ds vs → Reps K μ G (ds.set i d) (vs.set i v)
  | [], vs, i, g => by unfold Reps at g; subst g; exact Reps.nil
  | d0 :: ds, vs, 0, g => by
    unfold Reps at g
    obtain ⟨w, r, rfl, e2, e3⟩ := g
    exact Reps.cons h e3
  | d0 :: ds, vs, i + 1, g => by
    unfold Reps at g
    obtain ⟨w, r, rfl, e2, e3⟩ := g
    exact Reps.cons e2 (Reps.set h i e3)
theorem Reps.take : ∀ {ds : List D} {vs : List V} (n : Nat), Reps K μ G ds vs → Reps K μ G (ds.take n) (vs.take n)
  | _, _, 0, _ => Reps.nil
  | [], vs, n + 1, h => by unfold Reps at h; subst h; exact Reps.nil
  | d :: ds, vs, n + 1, h => by
    unfold Reps at h
    obtain ⟨v, r, rfl, e2, e3⟩ := h
    exact Reps.cons e2 (Reps.take n e3)
theorem Reps.drop : ∀ {ds : List D} {vs : List V} (n : Nat), Reps K μ G ds vs → Reps K μ G (ds.drop n) (vs.drop n)
  | _, _, 0, h => h
  | [], vs, n + 1, h => by unfold Reps at h; subst h; exact Reps.nil
  | d :: ds, vs, n + 1, h => by
    unfold Reps at h
    obtain ⟨v, r, rfl, e2, e3⟩ := h
    exact Reps.drop n e3
theorem Reps.ints : ∀ {ns : List Int}, Reps K μ G (ns.map D.int) (ns.map V.int)
  | [] => Reps.nil
  | n :: ns => Reps.cons (by unfold Rep; rfl) Reps.ints
end

/-! ### the store -/
section
variable (K : PySem.W.Frag)
def CellOk (μ : Mu) (ν : List Addr) (H : Hp) (i : Nat) : Cell → Prop
  | .dead => True
  | .lst xs => ∃ a vs, μ[i]? = some (some a) ∧ H a = some (.lst vs) ∧ xs.length ≤ sizeLine ∧ Reps K μ (hid μ ν H) xs vs
  | .ins C fs => ∃ a dx gs, μ[i]? = some (some a) ∧ H a = some (.ins C dx gs) ∧ FReps K μ (hid μ ν H) fs gs
structure StoOk (μ : Mu) (ν : List Addr) (H : Hp) (st : Sto) : Prop where
  len : μ.length = st.length
  inj : ∀ (i j : Nat) (a : Addr), μ[i]? = some (some a) → μ[j]? = some (some a) → i = j
  live : ∀ a, some a ∈ μ → ∃ o, H a = some o
  out : ∀ a ∈ ν, (∃ o, H a = some o) ∧ some a ∉ μ
  cell : ∀ (i : Nat) (c : Cell), st[i]? = some c → CellOk K μ ν H i c
end
structure Ext (ν : List Addr) (μ : Mu) (H : Hp) (μ' : Mu) (H' : Hp) : Prop where
  mu : MuExt μ μ'
  same : Same (hid μ ν H) (hid μ' ν H')
  out : ∀ a ∈ ν, H' a = H a
theorem Ext.refl {ν : List Addr} {μ : Mu} {H : Hp} : Ext ν μ H μ H := ⟨.refl, Same.refl _, fun _ _ => rfl⟩
theorem Ext.trans {ν : List Addr} {μ μ1 μ2 : Mu} {H H1 H2 : Hp} (a : Ext ν μ H μ1 H1) (b : Ext ν μ1 H1 μ2 H2) : Ext ν μ H μ2 H2 :=
  ⟨a.mu.trans b.mu, a.same.trans b.same, fun x hx => (b.out x hx).trans (a.out x hx)⟩
section
variable {K : PySem.W.Frag} {μ μ' : Mu} {ν : List Addr} {H H' : Hp} {st : Sto}
theorem Rep.ext {d : D} {v : V} (h : Rep K μ (hid μ ν H) d v) (e : Ext ν μ H μ' H') : Rep K μ' (hid μ' ν H') d v := Rep.mono e.mu e.same d v h
theorem Reps.ext {d : List D} {v : List V} (h : Reps K μ (hid μ ν H) d v) (e : Ext ν μ H μ' H') : Reps K μ' (hid μ' ν H') d v := Reps.mono e.mu e.same d v h
theorem mem_of_get {i : Nat} {a : Addr} (h : μ[i]? = some (some a)) : some a ∈ μ := List.mem_of_getElem? h
/-- a fresh address is not hidden -/
theorem StoOk.fresh (S : StoOk K μ ν H st) {p : Addr} (h : H p = none) : some p ∉ μ ∧ p ∉ ν := by
  refine ⟨fun z => ?_, fun z => ?_⟩
  · obtain ⟨o, e⟩ := S.live p z
    rw [h] at e; cases e
  · obtain ⟨⟨o, e⟩, _⟩ := S.out p z
    rw [h] at e; cases e
/-- a new object is seen -/
theorem StoOk.ext_new (S : StoOk K μ ν H st) {p : Addr} {o : HO} (h : H p = none) : Ext ν μ H μ (upd H p o) := by
  refine ⟨.refl, fun a u e => ?_, fun a ha => ?_⟩
  · obtain ⟨e1, e2, e3⟩ := hid_some e
    rw [hid_of e2 e3, upd_ne (ne_of_none e1 h)]
    exact e1
  · rw [upd_ne]
    intro z; subst z
    exact (S.fresh h).2 ha
theorem FReps.ext {d : List (Str × D)} {v : List (Str × V)} (h : FReps K μ (hid μ ν H) d v) (e : Ext ν μ H μ' H') : FReps K μ' (hid μ' ν H') d v := FReps.mono e.mu e.same d v h
/-- all cells stay where nothing hidden is touched -/
theorem CellOk.stay {i : Nat} {c : Cell} (h : CellOk K μ ν H i c) (e : Ext ν μ H μ' H') (hi : i < μ.length) (hk : ∀ a, μ[i]? = some (some a) → μ'[i]? = some (some a) ∧ H' a = H a) : CellOk K μ' ν H' i c := by
  cases c with
  | dead => trivial
  | lst xs =>
    obtain ⟨a, vs, h1, h2, h3, h4⟩ := h
    obtain ⟨k1, k2⟩ := hk a h1
    exact ⟨a, vs, k1, k2.trans h2, h3, h4.ext e⟩
  | ins C fs =>
    obtain ⟨a, dx, gs, h1, h2, h3⟩ := h
    obtain ⟨k1, k2⟩ := hk a h1
    exact ⟨a, dx, gs, k1, k2.trans h2, h3.ext e⟩
theorem StoOk.lt (S : StoOk K μ ν H st) {i : Nat} {c : Cell} (h : st[i]? = some c) : i < μ.length := by
  rw [S.len]
  exact (List.getElem?_eq_some_iff.mp h).1
theorem StoOk.new (S : StoOk K μ ν H st) {p : Addr} {o : HO} (h : H p = none) : StoOk K μ ν (upd H p o) st := by
  have ne : ∀ a, some a ∈ μ → a ≠ p := fun a ha z => by subst z; exact (S.fresh h).1 ha
  have ne2 : ∀ a ∈ ν, a ≠ p := fun a ha z => by subst z; exact (S.fresh h).2 ha
  refine ⟨S.len, S.inj, fun a ha => ?_, fun a ha => ?_, fun i c hc => ?_⟩
  · rw [upd_ne (ne a ha)]; exact S.live a ha
  · rw [upd_ne (ne2 a ha)]; exact S.out a ha
  · exact (S.cell i c hc).stay (S.ext_new h) (S.lt hc) fun a ha => ⟨ha, upd_ne (ne a (mem_of_get ha))⟩
/-- a new object comes into the store -/
theorem hid_push (S : StoOk K μ ν H st) {p : Addr} {o : HO} (h : H p = none) : Ext ν μ H (μ ++ [some p]) (upd H p o) := by
  refine ⟨⟨by rw [List.length_append]; omega, fun i a hi e => ?_⟩, fun a u e => ?_, (S.ext_new (o := o) h).out⟩
  · rw [List.getElem?_append_left hi] at e; exact e
  · obtain ⟨e1, e2, e3⟩ := hid_some e
    have hap : a ≠ p := ne_of_none e1 h
    rw [hid_of _ e3, upd_ne hap]
    · exact e1
    · intro z
      rcases List.mem_append.mp z with z | z
      · exact e2 z
      · exact hap (by simpa using z)
theorem StoOk.push (S : StoOk K μ ν H st) {p : Addr} {o : HO} {c : Cell} (h : H p = none) (hc : CellOk K (μ ++ [some p]) ν (upd H p o) μ.length c) : StoOk K (μ ++ [some p]) ν (upd H p o) (st ++ [c]) := by
  have ne : ∀ a, some a ∈ μ → a ≠ p := fun a ha z => by subst z; exact (S.fresh h).1 ha
  have ne2 : ∀ a ∈ ν, a ≠ p := fun a ha z => by subst z; exact (S.fresh h).2 ha
  have at_ : ∀ i a, (μ ++ [some p])[i]? = some (some a) → (i < μ.length ∧ μ[i]? = some (some a)) ∨ (i = μ.length ∧ a = p) := fun i a e => by
    by_cases hi : i < μ.length
    · rw [List.getElem?_append_left hi] at e; exact .inl ⟨hi, e⟩
    · rw [List.getElem?_append_right (by omega)] at e
      have hz : i - μ.length = 0 := by
        have := (List.getElem?_eq_some_iff.mp e).1
        simp at this; omega
      rw [hz] at e
      simp at e
      exact .inr ⟨by omega, e.symm⟩
  refine ⟨by rw [List.length_append, List.length_append, S.len]; rfl, fun i j a h1 h2 => ?_, fun a ha => ?_, fun a ha => ?_, fun i c' hc' => ?_⟩
  · rcases at_ i a h1 with ⟨hi, e1⟩ | ⟨hi, e1⟩ <;> rcases at_ j a h2 with ⟨hj, e2⟩ | ⟨hj, e2⟩
    · exact S.inj i j a e1 e2
    · exact absurd e2 (ne a (mem_of_get e1))
    · exact absurd e1 (ne a (mem_of_get e2))
    · omega
  · rcases List.mem_append.mp ha with ha | ha
    · rw [upd_ne (ne a ha)]; exact S.live a ha
    · have : a = p := by simpa using ha
      subst this
      exact ⟨o, upd_same⟩
  · rw [upd_ne (ne2 a ha)]
    refine ⟨(S.out a ha).1, fun z => ?_⟩
    rcases List.mem_append.mp z with z | z
    · exact (S.out a ha).2 z
    · exact ne2 a ha (by simpa using z)
  · by_cases hi : i < st.length
    · rw [List.getElem?_append_left hi] at hc'
      refine (S.cell i c' hc').stay (hid_push S h) (S.lt hc') fun a ha => ⟨?_, upd_ne (ne a (mem_of_get ha))⟩
      rw [List.getElem?_append_left (S.lt hc')]; exact ha
    · have hz : i = μ.length := by
        have := (List.getElem?_eq_some_iff.mp hc').1
        rw [List.length_append] at this
        have := S.len
        simp at *; omega
      subst hz
      rw [S.len, List.getElem?_append_right (Nat.le_refl _), Nat.sub_self] at hc'
      simp at hc'
      subst hc'
      exact hc
/-- a store's place is changed -/
theorem StoOk.put (S : StoOk K μ ν H st) {i : Nat} {a : Addr} {o : HO} {c : Cell} (hi : μ[i]? = some (some a)) (hc : CellOk K μ ν (upd H a o) i c) : StoOk K μ ν (upd H a o) (st.set i c) ∧ Ext ν μ H μ (upd H a o) := by
  have ma := mem_of_get hi
  have ne2 : ∀ b ∈ ν, b ≠ a := fun b hb z => by subst z; exact (S.out b hb).2 ma
  have e : Ext ν μ H μ (upd H a o) := by
    refine ⟨.refl, fun b u q => ?_, fun b hb => upd_ne (ne2 b hb)⟩
    obtain ⟨e1, e2, e3⟩ := hid_some q
    rw [hid_of e2 e3, upd_ne]
    · exact e1
    · intro z; subst z; exact e2 ma
  refine ⟨⟨by rw [List.length_set]; exact S.len, S.inj, fun b hb => ?_, fun b hb => ?_, fun j c' hc' => ?_⟩, e⟩
  · by_cases z : b = a
    · subst z; exact ⟨o, upd_same⟩
    · rw [upd_ne z]; exact S.live b hb
  · rw [upd_ne (ne2 b hb)]; exact S.out b hb
  · by_cases hj : i = j
    · subst hj
      rw [List.getElem?_set_self (by rw [← S.len]; exact (List.getElem?_eq_some_iff.mp hi).1)] at hc'
      cases hc'
      exact hc
    · rw [List.getElem?_set_ne hj] at hc'
      refine (S.cell j c' hc').stay e (S.lt hc') fun b hb => ⟨hb, upd_ne fun z => ?_⟩
      subst z
      exact hj (S.inj i j b hi hb)
end
end DL
end
section
namespace DL
open PySem PySem.Spec PyProof.Rows L2

/-! ### results -/
inductive R (α : Type) where
  | ok (a : α) (st : Sto)
  | er (C : Addr) (fs : Option (List (Str × D))) (st : Sto)
abbrev M (α : Type) := Sto → Option (R α)
def M.pure {α : Type} (a : α) : M α := fun st => some (.ok a st)
def M.no {α : Type} : M α := fun _ => none
def M.bind {α β : Type} (m : M α) (f : α → M β) : M β := fun st => match m st with
  | some (.ok a st') => f a st'
  | some (.er C fs st') => some (.er C fs st')
  | none => none
theorem bind_ok {α β : Type} {m : M α} {f : α → M β} {st st' : Sto} {a : α} (h : m st = some (.ok a st')) : M.bind m f st = f a st' := by unfold M.bind; rw [h]
theorem bind_er {α β : Type} {m : M α} {f : α → M β} {st st' : Sto} {C : Addr} {fs : Option (List (Str × D))} (h : m st = some (.er C fs st')) : M.bind m f st = some (.er C fs st') := by unfold M.bind; rw [h]
abbrev En := List (Option D)
abbrev EF := En → M D

section
variable (K : PySem.W.Frag)
def SimE (μ : Mu) (G : Hp) : En → L2.St → Prop
  | [], σ => σ = []
  | none :: δ, σ => ∃ v r, σ = v :: r ∧ SimE μ G δ r
  | some d :: δ, σ => ∃ v r, σ = some v :: r ∧ Rep K μ G d v ∧ SimE μ G δ r
def XOk (μ : Mu) (G : Hp) : Option (List (Str × D)) → Option Addr → Prop
  | none, d => d = none
  | some fs, d => ∃ a gs, d = some a ∧ G a = some (.xd gs) ∧ FReps K μ G fs gs
/-- what a result must do -/
def Out {α : Type} (ν : List Addr) (E : XK) (μ : Mu) (H : Hp) (o : Option (R α)) (k : α → Sto → Mu → Hp → Prop) : Prop := match o with
  | none => False
  | some (.ok a st') => ∀ μ' H', Ext ν μ H μ' H' → StoOk K μ' ν H' st' → k a st' μ' H'
  | some (.er C fs st') => ∀ μ' H' d, Ext ν μ H μ' H' → StoOk K μ' ν H' st' → XOk K μ' (hid μ' ν H') fs d → E (.ref C) d H'
/-- a state: places, frame, data of the names, store -/
structure Sit (μ : Mu) (ν : List Addr) (δ : En) (st : Sto) (σ : L2.St) (H : Hp) : Prop where
  sto : StoOk K μ ν H st
  env : SimE K μ (hid μ ν H) δ σ
def tD (E : XK) (f : EF) : TE := fun σ H Q => ∃ μ ν δ st, Sit K μ ν δ st σ H ∧ Out K ν E μ H (f δ st) fun d st' μ' H' => ∀ v, Rep K μ' (hid μ' ν H') d v → Q v H'
def tDs (E : XK) (f : En → M (List D)) : TA := fun σ H Q => ∃ μ ν δ st, Sit K μ ν δ st σ H ∧ Out K ν E μ H (f δ st) fun d st' μ' H' => ∀ v, Reps K μ' (hid μ' ν H') d v → Q v H'
def tDb (E : XK) (f : En → M Bool) : TT := fun σ H Q => ∃ μ ν δ st, Sit K μ ν δ st σ H ∧ Out K ν E μ H (f δ st) fun b st' μ' H' => Q b H'
inductive Fl where
  | nx (δ : En) | rt (d : D) | bk (δ : En) | ct (δ : En)
abbrev SF := En → M Fl
def endsD (ν : List Addr) (T : Ends) (fl : Fl) (μ : Mu) (H : Hp) : Prop := match fl with
  | .nx δ => ∀ σ, SimE K μ (hid μ ν H) δ σ → T.nx σ H
  | .rt d => ∀ v, Rep K μ (hid μ ν H) d v → T.rt v H
  | .bk δ => ∀ σ, SimE K μ (hid μ ν H) δ σ → T.bk σ H
  | .ct δ => ∀ σ, SimE K μ (hid μ ν H) δ σ → T.ct σ H
def tDS (E : XK) (f : SF) : TS := fun T σ H => ∃ μ ν δ st, Sit K μ ν δ st σ H ∧ Out K ν E μ H (f δ st) fun fl st' μ' H' => endsD K ν T fl μ' H'
/-- a def's promise -/
def spD (g : List D → M D) : Sp := fun vs H Q E => ∃ μ ν ds st, StoOk K μ ν H st ∧ Reps K μ (hid μ ν H) ds vs ∧ Out K ν E μ H (g ds st) fun d st' μ' H' => ∀ v, Rep K μ' (hid μ' ν H') d v → Q v H'
/-- an operator of two values -/
def rD2 (E : XK) (r : D → D → M D) : R2 := fun x y H Q => ∃ μ ν dx dy st, StoOk K μ ν H st ∧ Rep K μ (hid μ ν H) dx x ∧ Rep K μ (hid μ ν H) dy y ∧ Out K ν E μ H (r dx dy st) fun d st' μ' H' => ∀ v, Rep K μ' (hid μ' ν H') d v → Q v H'
def rD1 (E : XK) (r : D → M D) : V → Hp → VK → Prop := fun x H Q => ∃ μ ν dx st, StoOk K μ ν H st ∧ Rep K μ (hid μ ν H) dx x ∧ Out K ν E μ H (r dx st) fun d st' μ' H' => ∀ v, Rep K μ' (hid μ' ν H') d v → Q v H'
def rDs (E : XK) (r : List D → M D) : List V → Hp → VK → Prop := fun xs H Q => ∃ μ ν ds st, StoOk K μ ν H st ∧ Reps K μ (hid μ ν H) ds xs ∧ Out K ν E μ H (r ds st) fun d st' μ' H' => ∀ v, Rep K μ' (hid μ' ν H') d v → Q v H'
end

section
variable {K : PySem.W.Frag} {μ μ' : Mu} {ν : List Addr} {H H' : Hp} {G G' : Hp} {st : Sto} {E : XK}
theorem SimE.mono (m : MuExt μ μ') (e : Same G G') : ∀ {δ : En} {σ : L2.St}, SimE K μ G δ σ → SimE K μ' G' δ σ
  | [], σ, h => h
  | none :: δ, σ, h => by
    unfold SimE at h ⊢
    obtain ⟨v, r, h1, h2⟩ := h
    exact ⟨v, r, h1, SimE.mono m e h2⟩
  | some d :: δ, σ, h => by
    unfold SimE at h ⊢
    obtain ⟨v, r, h1, h2, h3⟩ := h
    exact ⟨v, r, h1, Rep.mono m e d v h2, SimE.mono m e h3⟩
theorem SimE.ext {δ : En} {σ : L2.St} (h : SimE K μ (hid μ ν H) δ σ) (e : Ext ν μ H μ' H') : SimE K μ' (hid μ' ν H') δ σ := h.mono e.mu e.same
theorem SimE.get : ∀ {δ : En} {σ : L2.St} {i : Nat} {d : D}, SimE K μ G δ σ → δ[i]? = some (some d) → ∃ v, σ[i]? = some (some v) ∧ Rep K μ G d v
  | [], σ, i, d, h, e => by simp at e
  | none :: δ, σ, 0, d, h, e => by simp at e
  | some d0 :: δ, σ, 0, d, h, e => by
    unfold SimE at h
    obtain ⟨v, r, rfl, h2, h3⟩ := h
    simp at e; subst e
    exact ⟨v, rfl, h2⟩
  | none :: δ, σ, i + 1, d, h, e => by
    unfold SimE at h
    obtain ⟨v, r, rfl, h2⟩ := h
    obtain ⟨u, h4, h5⟩ := SimE.get (i := i) h2 (by simpa using e)
    exact ⟨u, by simpa using h4, h5⟩
  | some d0 :: δ, σ, i + 1, d, h, e => by
    unfold SimE at h
    obtain ⟨v, r, rfl, h2, h3⟩ := h
    obtain ⟨u, h4, h5⟩ := SimE.get (i := i) h3 (by simpa using e)
    exact ⟨u, by simpa using h4, h5⟩
theorem SimE.set {d : D} {v : V} (hd : Rep K μ G d v) : ∀ {δ : En} {σ : L2.St} {i : Nat}, SimE K μ G δ σ → SimE K μ G (δ.set i (some d)) (σ.set i (some v))
  | [], σ, i, h => by unfold SimE at h; subst h; unfold SimE; rfl
  | none :: δ, σ, 0, h => by
    unfold SimE at h
    obtain ⟨w, r, rfl, h2⟩ := h
    show SimE K μ G (some d :: δ) (some v :: r)
    unfold SimE
    exact ⟨v, r, rfl, hd, h2⟩
  | some d0 :: δ, σ, 0, h => by
    unfold SimE at h
    obtain ⟨w, r, rfl, h2, h3⟩ := h
    show SimE K μ G (some d :: δ) (some v :: r)
    unfold SimE
    exact ⟨v, r, rfl, hd, h3⟩
  | none :: δ, σ, i + 1, h => by
    unfold SimE at h
    obtain ⟨w, r, rfl, h2⟩ := h
    show SimE K μ G (none :: δ.set i (some d)) (w :: r.set i (some v))
    unfold SimE
    exact ⟨w, _, rfl, h2.set hd⟩
  | some d0 :: δ, σ, i + 1, h => by
    unfold SimE at h
    obtain ⟨w, r, rfl, h2, h3⟩ := h
    show SimE K μ G (some d0 :: δ.set i (some d)) (some w :: r.set i (some v))
    unfold SimE
    exact ⟨w, _, rfl, h2, h3.set hd⟩
/-- a name is forgotten -/
theorem SimE.unset : ∀ {δ : En} {σ : L2.St} {i : Nat}, SimE K μ G δ σ → SimE K μ G (δ.set i none) σ
  | [], σ, i, h => h
  | none :: δ, σ, 0, h => h
  | some d0 :: δ, σ, 0, h => by
    unfold SimE at h
    obtain ⟨w, r, rfl, h2, h3⟩ := h
    show SimE K μ G (none :: δ) (some w :: r)
    unfold SimE
    exact ⟨some w, r, rfl, h3⟩
  | none :: δ, σ, i + 1, h => by
    unfold SimE at h
    obtain ⟨w, r, rfl, h2⟩ := h
    show SimE K μ G (none :: δ.set i none) (w :: r)
    unfold SimE
    exact ⟨w, r, rfl, h2.unset⟩
  | some d0 :: δ, σ, i + 1, h => by
    unfold SimE at h
    obtain ⟨w, r, rfl, h2, h3⟩ := h
    show SimE K μ G (some d0 :: δ.set i none) (some w :: r)
    unfold SimE
    exact ⟨w, r, rfl, h2, h3.unset⟩
/-- a name that is forgotten here may be forgotten there -/
theorem SimE.wipe1 : ∀ {δ : En} {σ : L2.St} {i : Nat}, SimE K μ G δ σ → SimE K μ G (δ.set i none) (σ.set i none)
  | [], σ, i, h => by unfold SimE at h; subst h; unfold SimE; rfl
  | none :: δ, σ, 0, h => by
    unfold SimE at h
    obtain ⟨w, r, rfl, h2⟩ := h
    show SimE K μ G (none :: δ) (none :: r)
    unfold SimE
    exact ⟨none, r, rfl, h2⟩
  | some d0 :: δ, σ, 0, h => by
    unfold SimE at h
    obtain ⟨w, r, rfl, h2, h3⟩ := h
    show SimE K μ G (none :: δ) (none :: r)
    unfold SimE
    exact ⟨none, r, rfl, h3⟩
  | none :: δ, σ, i + 1, h => by
    unfold SimE at h
    obtain ⟨w, r, rfl, h2⟩ := h
    show SimE K μ G (none :: δ.set i none) (w :: r.set i none)
    unfold SimE
    exact ⟨w, _, rfl, h2.wipe1⟩
  | some d0 :: δ, σ, i + 1, h => by
    unfold SimE at h
    obtain ⟨w, r, rfl, h2, h3⟩ := h
    show SimE K μ G (some d0 :: δ.set i none) (some w :: r.set i none)
    unfold SimE
    exact ⟨w, _, rfl, h2, h3.wipe1⟩
def wipeD (δ : En) : List Nat → En
  | [] => δ
  | v :: vs => (wipeD δ vs).set v none
theorem SimE.wipe {δ : En} {σ : L2.St} (h : SimE K μ G δ σ) : ∀ vs : List Nat, SimE K μ G (wipeD δ vs) (L2.wipe σ vs)
  | [] => h
  | v :: vs => (SimE.wipe h vs).wipe1
theorem SimE.len : ∀ {δ : En} {σ : L2.St}, SimE K μ G δ σ → σ.length = δ.length
  | [], σ, h => by unfold SimE at h; subst h; rfl
  | none :: δ, σ, h => by
    unfold SimE at h
    obtain ⟨w, r, rfl, h2⟩ := h
    rw [List.length_cons, List.length_cons, h2.len]
  | some d0 :: δ, σ, h => by
    unfold SimE at h
    obtain ⟨w, r, rfl, h2, h3⟩ := h
    rw [List.length_cons, List.length_cons, h3.len]
/-- the names' data at the entry -/
def startD (n : Nat) (ds : List D) : En := ds.map some ++ List.replicate (n - ds.length) none
theorem simE_none : ∀ (n : Nat), SimE K μ G (List.replicate n none) (List.replicate n none)
  | 0 => by show SimE K μ G [] []; unfold SimE; rfl
  | n + 1 => by
    show SimE K μ G (none :: List.replicate n none) (none :: List.replicate n none)
    unfold SimE
    exact ⟨none, _, rfl, simE_none n⟩
theorem simE_start : ∀ {ds : List D} {vs : List V} (m : Nat), Reps K μ G ds vs → SimE K μ G (ds.map some ++ List.replicate m none) (vs.map some ++ List.replicate m none)
  | [], vs, m, h => by unfold Reps at h; subst h; exact simE_none m
  | d :: ds, vs, m, h => by
    unfold Reps at h
    obtain ⟨v, r, rfl, h2, h3⟩ := h
    show SimE K μ G (some d :: (ds.map some ++ List.replicate m none)) (some v :: (r.map some ++ List.replicate m none))
    unfold SimE
    exact ⟨v, _, rfl, h2, simE_start m h3⟩

theorem XOk.mono (m : MuExt μ μ') (e : Same G G') {fs : Option (List (Str × D))} {d : Option Addr} (h : XOk K μ G fs d) : XOk K μ' G' fs d := by
  cases fs with
  | none => exact h
  | some fs =>
    obtain ⟨a, gs, h1, h2, h3⟩ := h
    exact ⟨a, gs, h1, e _ _ h2, FReps.mono m e fs gs h3⟩
section
variable {α β : Type}
theorem Out.ext {o : Option (R α)} {k : α → Sto → Mu → Hp → Prop} (h : Out K ν E μ H o k) (e : Ext ν μ H μ' H') : Out K ν E μ' H' o k := by
  unfold Out at h ⊢
  cases o with
  | none => exact h
  | some r =>
    cases r with
    | ok a st' => exact fun μ2 H2 e2 s2 => h μ2 H2 (e.trans e2) s2
    | er C fs st' => exact fun μ2 H2 d e2 s2 x => h μ2 H2 d (e.trans e2) s2 x
theorem Out.imp {o : Option (R α)} {k k' : α → Sto → Mu → Hp → Prop} (h : Out K ν E μ H o k) (hk : ∀ a st' μ' H', Ext ν μ H μ' H' → StoOk K μ' ν H' st' → k a st' μ' H' → k' a st' μ' H') : Out K ν E μ H o k' := by
  unfold Out at h ⊢
  cases o with
  | none => exact h
  | some r =>
    cases r with
    | ok a st' => exact fun μ2 H2 e2 s2 => hk _ _ _ _ e2 s2 (h μ2 H2 e2 s2)
    | er C fs st' => exact h
/-- the first part of two -/
theorem Out.fst {m : M α} {f : α → M β} {k : β → Sto → Mu → Hp → Prop} (h : Out K ν E μ H (M.bind m f st) k) : Out K ν E μ H (m st) fun a st' μ' H' => Out K ν E μ' H' (f a st') k := by
  cases e : m st with
  | none =>
    unfold M.bind at h
    rw [e] at h
    exact h
  | some r =>
    cases r with
    | ok a st' =>
      rw [bind_ok e] at h
      exact fun μ2 H2 e2 s2 => h.ext e2
    | er C fs st' =>
      rw [bind_er e] at h
      exact h
theorem Out.ret {a : α} {k : α → Sto → Mu → Hp → Prop} (S : StoOk K μ ν H st) (h : Out K ν E μ H (M.pure a st) k) : k a st μ H := h μ H .refl S
theorem Out.now {a : α} {k : α → Sto → Mu → Hp → Prop} (S : StoOk K μ ν H st) (h : Out K ν E μ H (some (R.ok a st)) k) : k a st μ H := h μ H .refl S
end
theorem Sit.ext {δ : En} {σ : L2.St} {st' : Sto} (S : Sit K μ ν δ st σ H) (e : Ext ν μ H μ' H') (s : StoOk K μ' ν H' st') : Sit K μ' ν δ st' σ H' := ⟨s, S.env.ext e⟩
end

/-! ### the judgements -/
abbrev DE (X : Cx) (E : XK) (e : Expr) (f : EF) : Prop := PE X e (tD X.K E f)
abbrev DA (X : Cx) (E : XK) (es : List Expr) (f : En → M (List D)) : Prop := PA X es (tDs X.K E f)
abbrev DT (X : Cx) (E : XK) (e : Expr) (f : En → M Bool) : Prop := PT X e (tDb X.K E f)
abbrev DSt (X : Cx) (E : XK) (s : Stmt) (f : SF) : Prop := PS X s (tDS X.K E f)
abbrev DSs (X : Cx) (E : XK) (s : List Stmt) (f : SF) : Prop := PSs X s (tDS X.K E f)

section
variable {X : Cx} {E : XK}
theorem pe_imp {e : Expr} {t t' : TE} (h : PE X e t) (i : ∀ σ H Q, t' σ H Q → t σ H Q) : PE X e t' := ⟨fun pins s σ H Q I q => h.run pins s σ H Q I (i _ _ _ q)⟩
theorem pa_imp {e : List Expr} {t t' : TA} (h : PA X e t) (i : ∀ σ H Q, t' σ H Q → t σ H Q) : PA X e t' := ⟨fun pos pins s σ H Q I q => h.run pos pins s σ H Q I (i _ _ _ q)⟩
theorem pt_imp {e : Expr} {t t' : TT} (h : PT X e t) (i : ∀ σ H Q, t' σ H Q → t σ H Q) : PT X e t' := ⟨fun pins s σ H Q I q => h.run pins s σ H Q I (i _ _ _ q)⟩
theorem ps_imp {e : Stmt} {t t' : TS} (h : PS X e t) (i : ∀ D σ H, t' D σ H → t D σ H) : PS X e t' := ⟨fun pins s σ H D I q => h.run pins s σ H D I (i _ _ _ q)⟩
theorem pss_imp {e : List Stmt} {t t' : TS} (h : PSs X e t) (i : ∀ D σ H, t' D σ H → t D σ H) : PSs X e t' := ⟨fun pins s σ H D I q => h.run pins s σ H D I (i _ _ _ q)⟩
theorem opR_imp {f : Value → Value → Sem Value} {r r' : R2} (h : OpR X f r) (i : ∀ x y H Q, r' x y H Q → r x y H Q) : OpR X f r' := fun pins s σ H x y v u Q I rx ry q => h pins s σ H x y v u Q I rx ry (i _ _ _ _ q)
theorem opR_or {f : Value → Value → Sem Value} {r r' : R2} (h : OpR X f r) (h' : OpR X f r') : OpR X f (fun x y H Q => r x y H Q ∨ r' x y H Q) := fun pins s σ H x y v u Q I rx ry q => q.elim (h pins s σ H x y v u Q I rx ry) (h' pins s σ H x y v u Q I rx ry)
theorem callR_imp {f : Value} {r r' : List V → Hp → VK → Prop} (h : CallR X f r) (i : ∀ x H Q, r' x H Q → r x H Q) : CallR X f r' := fun pins s σ H x v Q I rx q => h pins s σ H x v Q I rx (i _ _ _ q)
theorem callR_or {f : Value} {r r' : List V → Hp → VK → Prop} (h : CallR X f r) (h' : CallR X f r') : CallR X f (fun x H Q => r x H Q ∨ r' x H Q) := fun pins s σ H x v Q I rx q => q.elim (h pins s σ H x v Q I rx) (h' pins s σ H x v Q I rx)

/-! ### names, constants -/
def eVar (i : Nat) : EF := fun δ st => match δ[i]? with
  | some (some d) => some (.ok d st)
  | _ => none
def eC (d : D) : EF := fun _ st => some (.ok d st)
theorem de_var (i : Nat) {x : Str} {pos : Pos} (h : PE X (.Name x pos) (tVar i)) : DE X E (.Name x pos) (eVar i) := pe_imp h fun σ H Q ⟨μ, ν, δ, st, S, o⟩ => by
  unfold eVar at o
  split at o
  · rename_i d hd
    obtain ⟨v, h1, h2⟩ := S.env.get hd
    exact ⟨v, h1, o.now S.sto v h2⟩
  · exact o.elim
theorem de_c {e : Expr} {v : V} {d : D} (h : PE X e (tC v)) (hd : ∀ μ G, Rep X.K μ G d v) : DE X E e (eC d) := pe_imp h fun σ H Q ⟨μ, ν, δ, st, S, o⟩ => o.now S.sto v (hd _ _)
theorem de_int {i j pos} : DE X E (.Constant (.int i) j pos) (eC (.int i)) := de_c pe_int fun _ _ => by unfold Rep; rfl
theorem de_bl {b j pos} : DE X E (.Constant (.bool b) j pos) (eC (.bl b)) := de_c pe_bl fun _ _ => by unfold Rep; rfl
theorem de_non {j pos} : DE X E (.Constant .none j pos) (eC .non) := de_c pe_non fun _ _ => by unfold Rep; rfl
theorem de_str {x j pos} : DE X E (.Constant (.str x) j pos) (eC (.str x)) := de_c pe_str fun _ _ => by unfold Rep; rfl

/-! ### two operands -/
def eOp2 (r : D → D → M D) (fa fb : EF) : EF := fun δ => (fa δ).bind fun x => (fb δ).bind fun y => r x y
theorem tD_op2 {K : PySem.W.Frag} {r : D → D → M D} {fa fb : EF} {σ : L2.St} {H : Hp} {Q : VK} (h : tD K E (eOp2 r fa fb) σ H Q) : tOp (rD2 K E r) (tD K E fa) (tD K E fb) σ H Q := by
  obtain ⟨μ, ν, δ, st, S, o⟩ := h
  refine ⟨μ, ν, δ, st, S, o.fst.imp fun x st1 μ1 H1 e1 s1 o1 v hv => ?_⟩
  refine ⟨μ1, ν, δ, st1, S.ext e1 s1, o1.fst.imp fun y st2 μ2 H2 e2 s2 o2 u hu => ?_⟩
  exact ⟨μ2, ν, x, y, st2, s2, hv.ext e2, hu, o2⟩
theorem de_op {a b : Expr} {op : Operator} {pos : Pos} {r : D → D → M D} {fa fb : EF} (ho : OpR X (binaryOp op) (rD2 X.K E r)) (ha : DE X E a fa) (hb : DE X E b fb) : DE X E (.BinOp a op b pos) (eOp2 r fa fb) :=
  pe_imp (pe_op ho ha hb) fun σ H Q h => tD_op2 h
theorem de_cmp {a b : Expr} {op : CmpOp} {pos : Pos} {r : D → D → M D} {fa fb : EF} (ho : OpR X (compareOp op) (rD2 X.K E r)) (ha : DE X E a fa) (hb : DE X E b fb) (hm : behindInMarks op b = false) : DE X E (.Compare a [op] [b] pos) (eOp2 r fa fb) :=
  pe_imp (pe_cmpR ho ha hb hm) fun σ H Q h => tD_op2 h
/-! ### argument lists -/
def eNil : En → M (List D) := fun _ => M.pure []
def eCons (f : EF) (g : En → M (List D)) : En → M (List D) := fun δ => (f δ).bind fun x => (g δ).bind fun r => M.pure (x :: r)
theorem da_nil : DA X E [] eNil := pa_imp pa_nil fun σ H Q ⟨μ, ν, δ, st, S, o⟩ => o.ret S.sto [] .nil
theorem da_cons {e : Expr} {es : List Expr} {f : EF} {g : En → M (List D)} (he : DE X E e f) (hs : DA X E es g) (h : starEach (e :: es) X.env = (false, eval e X.env) :: starEach es X.env := by rfl) : DA X E (e :: es) (eCons f g) :=
  pa_imp (pa_cons he hs h) fun σ H Q ⟨μ, ν, δ, st, S, o⟩ => by
    refine ⟨μ, ν, δ, st, S, o.fst.imp fun x st1 μ1 H1 e1 s1 o1 v hv => ?_⟩
    refine ⟨μ1, ν, δ, st1, S.ext e1 s1, o1.fst.imp fun y st2 μ2 H2 e2 s2 o2 u hu => ?_⟩
    exact o2.ret s2 (v :: u) (.cons (hv.ext e2) hu)
/-! ### displays -/
def eTup (f : En → M (List D)) : EF := fun δ => (f δ).bind fun xs st => if xs.length ≤ sizeLine then some (.ok (.tup xs) st) else none
def eLst (f : En → M (List D)) : EF := fun δ => (f δ).bind fun xs st => if xs.length ≤ sizeLine then some (.ok (.lst xs) st) else none
/-- a new list, in the store -/
def eNewL (f : En → M (List D)) : EF := fun δ => (f δ).bind fun xs st => if xs.length ≤ sizeLine then some (.ok (.obj st.length) (st ++ [.lst xs])) else none
section
variable {K : PySem.W.Frag} {μ : Mu} {ν : List Addr} {H : Hp} {st : Sto}
theorem rep_lst {xs : List D} {vs : List V} {p : Addr} (S : StoOk K μ ν H st) (hp : H p = none) (hl : xs.length ≤ sizeLine) (h : Reps K μ (hid μ ν H) xs vs) : Rep K μ (hid μ ν (upd H p (.lst vs))) (.lst xs) (.ref p) := by
  unfold Rep
  refine ⟨p, vs, rfl, ?_, hl, h.ext (S.ext_new hp)⟩
  rw [hid_of (S.fresh hp).1 (S.fresh hp).2, upd_same]
theorem rep_tup {xs : List D} {vs : List V} {p : Addr} (S : StoOk K μ ν H st) (hp : H p = none) (hl : xs.length ≤ sizeLine) (h : Reps K μ (hid μ ν H) xs vs) : Rep K μ (hid μ ν (upd H p (.tup vs))) (.tup xs) (.ref p) := by
  unfold Rep
  refine ⟨p, vs, rfl, .inl (.inl ?_), hl, h.ext (S.ext_new hp)⟩
  rw [hid_of (S.fresh hp).1 (S.fresh hp).2, upd_same]
theorem sto_lst {xs : List D} {vs : List V} {p : Addr} (S : StoOk K μ ν H st) (hp : H p = none) (hl : xs.length ≤ sizeLine) (h : Reps K μ (hid μ ν H) xs vs) :
    StoOk K (μ ++ [some p]) ν (upd H p (.lst vs)) (st ++ [.lst xs]) ∧ Ext ν μ H (μ ++ [some p]) (upd H p (.lst vs)) ∧ Rep K (μ ++ [some p]) (hid (μ ++ [some p]) ν (upd H p (.lst vs))) (.obj st.length) (.ref p) := by
  refine ⟨S.push hp ⟨p, vs, ?_, upd_same, hl, h.ext (hid_push S hp)⟩, hid_push S hp, ?_⟩
  · rw [List.getElem?_append_right (Nat.le_refl _), Nat.sub_self]; rfl
  · unfold Rep
    rw [← S.len]
    refine ⟨by rw [List.length_append]; exact Nat.lt_succ_self _, fun a e => ?_⟩
    rw [List.getElem?_append_right (Nat.le_refl _), Nat.sub_self] at e
    simp at e
    rw [e]
end
theorem de_tup {es : List Expr} {f : En → M (List D)} {x1 pos} (h : DA X E es f) : DE X E (.Tuple es x1 pos) (eTup f) := pe_imp (pe_tup h) fun σ H Q ⟨μ, ν, δ, st, S, o⟩ => by
  refine ⟨μ, ν, δ, st, S, o.fst.imp fun xs st1 μ1 H1 e1 s1 o1 vs hv => ?_⟩
  split at o1
  · rename_i hl
    exact ⟨by rw [← hv.len]; exact hl, fun p hp => o1 μ1 _ (s1.ext_new hp) (s1.new hp) _ (rep_tup s1 hp hl hv)⟩
  · exact o1.elim
theorem de_lst {es : List Expr} {f : En → M (List D)} {pos} (h : DA X E es f) : DE X E (.List es pos) (eLst f) := pe_imp (pe_lst h) fun σ H Q ⟨μ, ν, δ, st, S, o⟩ => by
  refine ⟨μ, ν, δ, st, S, o.fst.imp fun xs st1 μ1 H1 e1 s1 o1 vs hv => ?_⟩
  split at o1
  · rename_i hl
    exact ⟨by rw [← hv.len]; exact hl, fun p hp => o1 μ1 _ (s1.ext_new hp) (s1.new hp) _ (rep_lst s1 hp hl hv)⟩
  · exact o1.elim
theorem de_newL {es : List Expr} {f : En → M (List D)} {pos} (h : DA X E es f) : DE X E (.List es pos) (eNewL f) := pe_imp (pe_lst h) fun σ H Q ⟨μ, ν, δ, st, S, o⟩ => by
  refine ⟨μ, ν, δ, st, S, o.fst.imp fun xs st1 μ1 H1 e1 s1 o1 vs hv => ?_⟩
  split at o1
  · rename_i hl
    exact ⟨by rw [← hv.len]; exact hl, fun p hp => let ⟨a, b, c⟩ := sto_lst s1 hp hl hv; o1 _ _ b a _ c⟩
  · exact o1.elim
end
end DL
end
section
namespace DL
open PySem PySem.Spec PyProof.Rows L2

/-! ### data as lists -/
/-- what can be read as a list -/
def asL (st : Sto) : D → Option (List D)
  | .lst xs => some xs
  | .fl xs => some xs
  | .obj i => match st[i]? with
    | some (.lst xs) => some xs
    | _ => none
  | _ => none
def asT : D → Option (List D)
  | .tup xs => some xs
  | _ => none
/-- a list that stands by itself (no script) -/
def asM (st : Sto) : D → Option (List D)
  | .lst xs => some xs
  | .obj i => match st[i]? with
    | some (.lst xs) => some xs
    | _ => none
  | _ => none
section
variable {K : PySem.W.Frag} {μ : Mu} {ν : List Addr} {H : Hp} {st : Sto}
theorem StoOk.obj (S : StoOk K μ ν H st) {i : Nat} {v : V} {c : Cell} (h : Rep K μ (hid μ ν H) (.obj i) v) (hc : st[i]? = some c) : CellOk K μ ν H i c ∧ ∀ a, μ[i]? = some (some a) → v = .ref a := by
  unfold Rep at h
  exact ⟨S.cell i c hc, h.2⟩
theorem asM_rep (S : StoOk K μ ν H st) {d : D} {v : V} {xs : List D} (h : Rep K μ (hid μ ν H) d v) (e : asM st d = some xs) : ∃ a vs, v = .ref a ∧ H a = some (.lst vs) ∧ xs.length ≤ sizeLine ∧ Reps K μ (hid μ ν H) xs vs := by
  unfold asM at e
  split at e
  · cases e
    unfold Rep at h
    obtain ⟨a, vs, e1, e2, e3, e4⟩ := h
    exact ⟨a, vs, e1, (hid_some e2).1, e3, e4⟩
  · split at e
    · cases e
      rename_i hc
      obtain ⟨⟨a, vs, h1, h2, h3, h4⟩, hv⟩ := S.obj h hc
      exact ⟨a, vs, hv a h1, h2, h3, h4⟩
    · cases e
  · cases e
theorem asL_rep (S : StoOk K μ ν H st) {d : D} {v : V} {xs : List D} (h : Rep K μ (hid μ ν H) d v) (e : asL st d = some xs) : ∃ a vs, v = .ref a ∧ SqL K H a vs ∧ xs.length ≤ sizeLine ∧ Reps K μ (hid μ ν H) xs vs := by
  unfold asL at e
  split at e
  · cases e
    unfold Rep at h
    obtain ⟨a, vs, e1, e2, e3, e4⟩ := h
    exact ⟨a, vs, e1, .inl (.inl (hid_some e2).1), e3, e4⟩
  · cases e
    unfold Rep at h
    obtain ⟨a, vs, e1, e2, e3, e4⟩ := h
    exact ⟨a, vs, e1, hid_sub.seq e2, e3, e4⟩
  · split at e
    · cases e
      rename_i hc
      obtain ⟨⟨a, vs, h1, h2, h3, h4⟩, hv⟩ := S.obj h hc
      exact ⟨a, vs, hv a h1, .inl (.inl h2), h3, h4⟩
    · cases e
  · cases e
theorem asT_rep {d : D} {v : V} {xs : List D} (h : Rep K μ (hid μ ν H) d v) (e : asT d = some xs) : ∃ a vs, v = .ref a ∧ SqT K H a vs ∧ xs.length ≤ sizeLine ∧ Reps K μ (hid μ ν H) xs vs := by
  unfold asT at e
  split at e
  · cases e
    unfold Rep at h
    obtain ⟨a, vs, e1, e2, e3, e4⟩ := h
    exact ⟨a, vs, e1, sqT_same hid_sub e2, e3, e4⟩
  · cases e
theorem rep_int {μ : Mu} {G : Hp} {i : Int} {v : V} (h : Rep K μ G (.int i) v) : v = .int i := by unfold Rep at h; exact h
theorem rep_bl {μ : Mu} {G : Hp} {i : Bool} {v : V} (h : Rep K μ G (.bl i) v) : v = .bl i := by unfold Rep at h; exact h
theorem rep_non {μ : Mu} {G : Hp} {v : V} (h : Rep K μ G .non v) : v = .non := by unfold Rep at h; exact h
theorem rep_str {μ : Mu} {G : Hp} {i : Str} {v : V} (h : Rep K μ G (.str i) v) : v = .str i := by unfold Rep at h; exact h
theorem to_int {μ : Mu} {G : Hp} {i : Int} : Rep K μ G (.int i) (.int i) := by unfold Rep; rfl
theorem to_bl {μ : Mu} {G : Hp} {i : Bool} : Rep K μ G (.bl i) (.bl i) := by unfold Rep; rfl
theorem to_non {μ : Mu} {G : Hp} : Rep K μ G .non .non := by unfold Rep; rfl
theorem to_str {μ : Mu} {G : Hp} {i : Str} : Rep K μ G (.str i) (.str i) := by unfold Rep; rfl
end

/-! ### arithmetic -/
def subD (x y : D) : M D := fun st => match x, y with
  | .int i, .int j => some (.ok (.int (i - j)) st)
  | _, _ => none
def modD (x y : D) : M D := fun st => match x, y with
  | .int i, .int j => if 0 < j then some (.ok (.int (i % j)) st) else none
  | _, _ => none
def divD (x y : D) : M D := fun st => match x, y with
  | .int i, .int j => if 0 < j ∧ j.natAbs < 2 ^ 9000 then some (.ok (.int (i / j)) st) else none
  | _, _ => none
def powD (x y : D) : M D := fun st => match x, y with
  | .int i, .int j => if 0 ≤ j ∧ j ≤ 1000000 ∧ i.natAbs < 2 ^ 64 then some (.ok (.int (i ^ j.toNat)) st) else none
  | _, _ => none
def mulD (x y : D) : M D := fun st => match x, y with
  | .int i, .int j => if ((-(2 ^ 64) < i ∧ i < 2 ^ 64) ∨ (-(2 ^ 64) < j ∧ j < 2 ^ 64)) ∨ i.natAbs.log2 + j.natAbs.log2 < 1000000 then some (.ok (.int (i * j)) st) else none
  | x, .int k => match asM st x with
    | some xs => if -(2 ^ 63) ≤ k ∧ k < 2 ^ 63 ∧ xs.length * k.toNat ≤ sizeLine then some (.ok (.lst (List.replicate k.toNat xs).flatten) st) else none
    | none => none
  | _, _ => none
def addD (x y : D) : M D := fun st => match x, y with
  | .int i, .int j => some (.ok (.int (i + j)) st)
  | .tup xs, .tup ys => if xs ≠ [] ∧ ys ≠ [] ∧ xs.length + ys.length ≤ sizeLine then some (.ok (.tup (xs ++ ys)) st) else none
  | x, y => match asM st x, asM st y with
    | some xs, some ys => if xs.length + ys.length ≤ sizeLine then some (.ok (.lst (xs ++ ys)) st) else none
    | _, _ => none

section
variable {X : Cx} {E : XK}
theorem od_sub : OpR X (binaryOp .Sub) (rD2 X.K E subD) := opR_imp op_sub fun x y H Q ⟨μ, ν, dx, dy, st, S, hx, hy, o⟩ => by
  unfold subD at o
  split at o
  · exact ⟨_, _, rep_int hx, rep_int hy, o.now S _ to_int⟩
  · exact o.elim
theorem od_mod : OpR X (binaryOp .Mod) (rD2 X.K E modD) := opR_imp op_mod fun x y H Q ⟨μ, ν, dx, dy, st, S, hx, hy, o⟩ => by
  unfold modD at o
  split at o
  · split at o
    · rename_i hj
      exact ⟨_, _, rep_int hx, rep_int hy, hj, o.now S _ to_int⟩
    · exact o.elim
  · exact o.elim
theorem od_div : OpR X (binaryOp .FloorDiv) (rD2 X.K E divD) := opR_imp op_fdivW fun x y H Q ⟨μ, ν, dx, dy, st, S, hx, hy, o⟩ => by
  unfold divD at o
  split at o
  · split at o
    · rename_i hj
      exact ⟨_, _, rep_int hx, rep_int hy, wide_div hj.1 hj.2 (by decide) (by decide), o.now S _ to_int⟩
    · exact o.elim
  · exact o.elim
theorem od_pow : OpR X (binaryOp .Pow) (rD2 X.K E powD) := opR_imp op_pow fun x y H Q ⟨μ, ν, dx, dy, st, S, hx, hy, o⟩ => by
  unfold powD at o
  split at o
  · split at o
    · rename_i hj
      exact ⟨_, _, rep_int hx, rep_int hy, hj, o.now S _ to_int⟩
    · exact o.elim
  · exact o.elim
theorem reps_rep {K : PySem.W.Frag} {μ : Mu} {G : Hp} {xs : List D} {vs : List V} (h : Reps K μ G xs vs) : ∀ n, Reps K μ G (List.replicate n xs).flatten (List.replicate n vs).flatten
  | 0 => Reps.nil
  | n + 1 => by
    rw [List.replicate_succ, List.replicate_succ, List.flatten_cons, List.flatten_cons]
    exact h.append (reps_rep h n)
theorem od_mul : OpR X (binaryOp .Mult) (rD2 X.K E mulD) := opR_imp (opR_or (opR_or op_mul op_mulW) op_rep) fun x y H Q ⟨μ, ν, dx, dy, st, S, hx, hy, o⟩ => by
  unfold mulD at o
  split at o
  · split at o
    · rename_i hj
      rcases hj with hj | hj
      · exact .inl (.inl ⟨_, _, rep_int hx, rep_int hy, hj, o.now S _ to_int⟩)
      · exact .inl (.inr ⟨_, _, rep_int hx, rep_int hy, hj, o.now S _ to_int⟩)
    · exact o.elim
  · split at o
    · rename_i hm
      split at o
      · rename_i hk
        obtain ⟨a, vs, e1, e2, e3, e4⟩ := asM_rep S hx hm
        refine .inr ⟨a, _, vs, e1, rep_int hy, e2, hk.1, hk.2.1, by rw [← e4.len]; exact hk.2.2, fun p hp => ?_⟩
        exact o _ _ (S.ext_new hp) (S.new hp) _ (rep_lst S hp (by rw [List.length_flatten, List.map_replicate, List.sum_replicate_nat, Nat.mul_comm]; exact hk.2.2) (reps_rep e4 _))
      · exact o.elim
    · exact o.elim
  · exact o.elim
theorem od_add : OpR X (binaryOp .Add) (rD2 X.K E addD) := opR_imp (opR_or (opR_or op_add op_cat) op_catT) fun x y H Q ⟨μ, ν, dx, dy, st, S, hx, hy, o⟩ => by
  unfold addD at o
  split at o
  · exact .inl (.inl ⟨_, _, rep_int hx, rep_int hy, o.now S _ to_int⟩)
  · split at o
    · rename_i hl
      obtain ⟨a, vs, e1, e2, e3, e4⟩ := asT_rep hx rfl
      obtain ⟨b, ws, f1, f2, f3, f4⟩ := asT_rep hy rfl
      refine .inr ⟨a, b, vs, ws, e1, f1, e2, f2, ?_, by rw [← e4.len, ← f4.len]; exact hl.2.2, ?_⟩
      · intro z
        have := e4.len
        rw [z] at this
        exact hl.1 (List.length_eq_zero_iff.mp this)
      · refine ⟨fun z => ?_, fun _ p hp => ?_⟩
        · have := f4.len
          rw [z] at this
          exact absurd (List.length_eq_zero_iff.mp this) hl.2.1
        · exact o _ _ (S.ext_new hp) (S.new hp) _ (rep_tup S hp (by rw [List.length_append]; exact hl.2.2) (e4.append f4))
    · exact o.elim
  · split at o
    · rename_i h1 h2
      split at o
      · rename_i hl
        obtain ⟨a, vs, e1, e2, e3, e4⟩ := asM_rep S hx h1
        obtain ⟨b, ws, f1, f2, f3, f4⟩ := asM_rep S hy h2
        refine .inl (.inr ⟨a, b, vs, ws, e1, f1, e2, f2, by rw [← e4.len, ← f4.len]; exact hl, fun p hp => ?_⟩)
        exact o _ _ (S.ext_new hp) (S.new hp) _ (rep_lst S hp (by rw [List.length_append]; exact hl) (e4.append f4))
      · exact o.elim
    · exact o.elim
end

/-! ### comparisons of ints -/
def cmpI (p : Int → Int → Bool) (x y : D) : M D := fun st => match x, y with
  | .int i, .int j => some (.ok (.bl (p i j)) st)
  | _, _ => none
abbrev ltD := cmpI fun i j => decide (i < j)
abbrev leD := cmpI fun i j => decide (i ≤ j)
abbrev gtD := cmpI fun i j => decide (j < i)
abbrev geD := cmpI fun i j => decide (j ≤ i)
section
variable {X : Cx} {E : XK}
theorem od_cmp {op : CmpOp} {p : Int → Int → Bool} (h : OpR X (compareOp op) (rI0 fun i j => .bl (p i j))) : OpR X (compareOp op) (rD2 X.K E (cmpI p)) := opR_imp h fun x y H Q ⟨μ, ν, dx, dy, st, S, hx, hy, o⟩ => by
  unfold cmpI at o
  split at o
  · exact ⟨_, _, rep_int hx, rep_int hy, o.now S _ to_bl⟩
  · exact o.elim
theorem od_lt : OpR X (compareOp .Lt) (rD2 X.K E ltD) := od_cmp op_lt
theorem od_le : OpR X (compareOp .LtE) (rD2 X.K E leD) := od_cmp op_le
theorem od_gt : OpR X (compareOp .Gt) (rD2 X.K E gtD) := od_cmp op_gt
theorem od_ge : OpR X (compareOp .GtE) (rD2 X.K E geD) := od_cmp op_ge
end

/-! ### == of data -/
def allM {β : Type} (f : D → Option β) : List D → Option (List β)
  | [] => some []
  | x :: xs => match f x with
    | some y => match allM f xs with
      | some ys => some (y :: ys)
      | none => none
    | none => none
theorem allM_map {α β : Type} {f : D → Option β} {m : α → D} {g : α → β} : ∀ {xs : List α}, (∀ x ∈ xs, f (m x) = some (g x)) → allM f (xs.map m) = some (xs.map g)
  | [], _ => rfl
  | x :: xs, h => by
    rw [List.map_cons]
    unfold allM
    rw [h x (List.mem_cons_self), allM_map (fun y hy => h y (List.mem_cons_of_mem _ hy))]
    rfl
theorem allM_cons {β : Type} {f : D → Option β} {x : D} {xs : List D} {r : List β} (h : allM f (x :: xs) = some r) : ∃ y ys, r = y :: ys ∧ f x = some y ∧ allM f xs = some ys := by
  unfold allM at h
  split at h
  · rename_i y hy
    split at h
    · rename_i ys hys
      cases h
      exact ⟨y, ys, rfl, hy, hys⟩
    · cases h
  · cases h
/-- what == reads -/
def datD (st : Sto) : Nat → D → Option PyData
  | _, .non => some .none
  | _, .bl b => some (.bool b)
  | _, .int i => some (.int i)
  | _, .str x => if PyData.strOk x = true then some (.str x) else none
  | k + 1, .lst xs => match allM (datD st k) xs with | some ys => some (.list ys) | none => none
  | k + 1, .fl xs => match allM (datD st k) xs with | some ys => some (.list ys) | none => none
  | k + 1, .tup xs => match allM (datD st k) xs with | some ys => some (.tuple ys) | none => none
  | k + 1, .obj i => match st[i]? with
    | some (.lst xs) => match allM (datD st k) xs with | some ys => some (.list ys) | none => none
    | _ => none
  | _, _ => none
theorem depth_all {m : Nat} : ∀ {ys : List PyData}, (∀ y ∈ ys, y.depth ≤ m) → PyData.depthAll ys ≤ m
  | [], _ => by unfold PyData.depthAll; exact Nat.zero_le _
  | y :: ys, h => by
    unfold PyData.depthAll
    exact Nat.max_le.mpr ⟨h y (List.mem_cons_self), depth_all fun z hz => h z (List.mem_cons_of_mem _ hz)⟩
theorem lay_all : ∀ {ys : List PyData}, (∀ y ∈ ys, y.canLay0 = true) → PyData.canLayAll0 ys = true
  | [], _ => by unfold PyData.canLayAll0; rfl
  | y :: ys, h => by
    unfold PyData.canLayAll0
    rw [h y (List.mem_cons_self), lay_all fun z hz => h z (List.mem_cons_of_mem _ hz)]
    rfl
section
variable {K : PySem.W.Frag} {μ : Mu} {ν : List Addr} {H : Hp} {st : Sto}
/-- what datD gives -/
structure DatOk (K : PySem.W.Frag) (H : Hp) (k : Nat) (v : V) (p : PyData) : Prop where
  dp : Dp K H v p
  dep : p.depth ≤ k + 1
  lay : p.canLay0 = true
theorem dat_all {k : Nat} (ih : ∀ (d : D) (v : V) (p : PyData), Rep K μ (hid μ ν H) d v → datD st k d = some p → DatOk K H k v p) : ∀ (xs : List D) (vs : List V) (ps : List PyData), Reps K μ (hid μ ν H) xs vs → allM (datD st k) xs = some ps →
    DpAll K H vs ps ∧ ∀ p ∈ ps, p.depth ≤ k + 1 ∧ p.canLay0 = true
  | [], vs, ps, h, e => by
    unfold Reps at h
    subst h
    cases e
    exact ⟨.nil, fun p hp => by cases hp⟩
  | x :: xs, vs, ps, h, e => by
    unfold Reps at h
    obtain ⟨v, r, rfl, h1, h2⟩ := h
    obtain ⟨y, ys, rfl, e1, e2⟩ := allM_cons e
    have a := ih x v y h1 e1
    obtain ⟨b, c⟩ := dat_all ih xs r ys h2 e2
    refine ⟨.cons a.dp b, fun p hp => ?_⟩
    rcases List.mem_cons.mp hp with rfl | hp
    · exact ⟨a.dep, a.lay⟩
    · exact c p hp
theorem dat_lst {k : Nat} {a : Addr} {vs : List V} {ps : List PyData} (h : SqL K H a vs) (x : DpAll K H vs ps ∧ ∀ p ∈ ps, p.depth ≤ k + 1 ∧ p.canLay0 = true) : DatOk K H (k + 1) (.ref a) (.list ps) := by
  refine ⟨.lst h x.1, ?_, ?_⟩
  · unfold PyData.depth
    have := depth_all (m := k + 1) fun y hy => (x.2 y hy).1
    omega
  · unfold PyData.canLay0
    exact lay_all fun y hy => (x.2 y hy).2
theorem dat_rep (S : StoOk K μ ν H st) : ∀ (k : Nat) (d : D) (v : V) (p : PyData), Rep K μ (hid μ ν H) d v → datD st k d = some p → DatOk K H k v p := by
  have flat : ∀ (k : Nat) (d : D) (v : V) (p : PyData), Rep K μ (hid μ ν H) d v → datD st 0 d = some p → DatOk K H k v p := by
    intro k d v p h e
    cases d with
    | non => cases e; rw [rep_non h]; exact ⟨.non, by unfold PyData.depth; omega, by unfold PyData.canLay0; rfl⟩
    | bl b => cases e; rw [rep_bl h]; exact ⟨.bl b, by unfold PyData.depth; omega, by unfold PyData.canLay0; rfl⟩
    | int i => cases e; rw [rep_int h]; exact ⟨.int i, by unfold PyData.depth; omega, by unfold PyData.canLay0; rfl⟩
    | str x =>
      unfold datD at e
      split at e
      · rename_i hs
        cases e
        rw [rep_str h]
        exact ⟨.str x, by unfold PyData.depth; omega, by unfold PyData.canLay0; exact hs⟩
      · cases e
    | _ => cases e
  intro k
  induction k with
  | zero => exact flat 0
  | succ k ih =>
    intro d v p h e
    cases d with
    | lst xs =>
      unfold datD at e
      split at e
      · rename_i ys hy
        cases e
        unfold Rep at h
        obtain ⟨a, vs, rfl, e2, e3, e4⟩ := h
        exact dat_lst (.inl (.inl (hid_some e2).1)) (dat_all ih xs vs ys e4 hy)
      · cases e
    | fl xs =>
      unfold datD at e
      split at e
      · rename_i ys hy
        cases e
        unfold Rep at h
        obtain ⟨a, vs, rfl, e2, e3, e4⟩ := h
        exact dat_lst (hid_sub.seq e2) (dat_all ih xs vs ys e4 hy)
      · cases e
    | tup xs =>
      unfold datD at e
      split at e
      · rename_i ys hy
        cases e
        unfold Rep at h
        obtain ⟨a, vs, rfl, e2, e3, e4⟩ := h
        have x := dat_all ih xs vs ys e4 hy
        refine ⟨.tup (sqT_same hid_sub e2) x.1, ?_, ?_⟩
        · unfold PyData.depth
          have := depth_all (m := k + 1) fun y hy => (x.2 y hy).1
          omega
        · unfold PyData.canLay0
          exact lay_all fun y hy => (x.2 y hy).2
      · cases e
    | obj i =>
      unfold datD at e
      split at e
      · rename_i xs hc
        split at e
        · rename_i ys hy
          cases e
          obtain ⟨⟨a, vs, h1, h2, h3, h4⟩, hv⟩ := S.obj h hc
          rw [hv a h1]
          exact dat_lst (.inl (.inl h2)) (dat_all ih xs vs ys h4 hy)
        · cases e
      · cases e
    | non => exact flat (k + 1) _ v p h e
    | bl b => exact flat (k + 1) _ v p h e
    | int i => exact flat (k + 1) _ v p h e
    | str x => exact flat (k + 1) _ v p h e
    | _ => cases e
end
def eqD (x y : D) : M D := fun st => match datD st 8 x, datD st 8 y with
  | some a, some b => some (.ok (.bl (PyData.eqv a b)) st)
  | _, _ => none
def neD (x y : D) : M D := fun st => match datD st 8 x, datD st 8 y with
  | some a, some b => some (.ok (.bl (!PyData.eqv a b)) st)
  | _, _ => none
section
variable {X : Cx} {E : XK}
theorem shaped_of {K : PySem.W.Frag} {H : Hp} {v : V} {p : PyData} (h : DatOk K H 8 v p) : SeqAt.shaped p = true := by
  unfold SeqAt.shaped
  rw [h.lay, decide_eq_true (show p.depth ≤ 64 by have := h.dep; omega)]
  rfl
theorem od_eq (hu : X.A.units + 64 < cLine) : OpR X (compareOp .Eq) (rD2 X.K E eqD) := opR_imp (op_eqD hu) fun x y H Q ⟨μ, ν, dx, dy, st, S, hx, hy, o⟩ => by
  unfold eqD at o
  split at o
  · rename_i a b ha hb
    have p := dat_rep S 8 dx x a hx ha
    have q := dat_rep S 8 dy y b hy hb
    exact ⟨a, b, p.dp, q.dp, shaped_of p, shaped_of q, o.now S _ to_bl⟩
  · exact o.elim
theorem od_ne (hu : X.A.units + 64 < cLine) : OpR X (compareOp .NotEq) (rD2 X.K E neD) := opR_imp (op_neD hu) fun x y H Q ⟨μ, ν, dx, dy, st, S, hx, hy, o⟩ => by
  unfold neD at o
  split at o
  · rename_i a b ha hb
    have p := dat_rep S 8 dx x a hx ha
    have q := dat_rep S 8 dy y b hy hb
    exact ⟨a, b, p.dp, q.dp, shaped_of p, shaped_of q, o.now S _ to_bl⟩
  · exact o.elim
end

/-! ### is, in -/
def isNonD : D → Bool
  | .non => true
  | _ => false
def isObjD : D → Bool
  | .obj _ => true
  | _ => false
def isD (x y : D) : M D := fun st => match x, y with
  | .bl a, .bl b => some (.ok (.bl (a == b)) st)
  | x, .non => if isObjD x = true then none else some (.ok (.bl (isNonD x)) st)
  | _, _ => none
def nisD (x y : D) : M D := fun st => match x, y with
  | .bl a, .bl b => some (.ok (.bl (!(a == b))) st)
  | x, .non => if isObjD x = true then none else some (.ok (.bl (!isNonD x)) st)
  | _, _ => none
theorem rep_isN {K : PySem.W.Frag} {μ : Mu} {G : Hp} {d : D} {v : V} (h : Rep K μ G d v) (hd : isObjD d = false) : decide (v = .non) = isNonD d := by
  cases d with
  | non => rw [rep_non h]; rfl
  | bl b => rw [rep_bl h]; rfl
  | int i => rw [rep_int h]; rfl
  | str x => rw [rep_str h]; rfl
  | lst xs => unfold Rep at h; obtain ⟨a, vs, rfl, _⟩ := h; rfl
  | fl xs => unfold Rep at h; obtain ⟨a, vs, rfl, _⟩ := h; rfl
  | tup xs => unfold Rep at h; obtain ⟨a, vs, rfl, _⟩ := h; rfl
  | ins C fs => unfold Rep at h; obtain ⟨a, dx, gs, rfl, _⟩ := h; rfl
  | dct kvs => unfold Rep at h; obtain ⟨a, ws, rfl, _⟩ := h; rfl
  | exc _ _ => unfold Rep at h; exact h.elim
  | obj i => cases hd
  | fn f => unfold Rep at h; subst h; rfl
section
variable {X : Cx} {E : XK}
theorem od_is : OpR X (compareOp .Is) (rD2 X.K E isD) := opR_imp (opR_or op_isN op_isBl) fun x y H Q ⟨μ, ν, dx, dy, st, S, hx, hy, o⟩ => by
  unfold isD at o
  split at o
  · rename_i a b
    refine .inr ⟨a, b, rep_bl hx, rep_bl hy, ?_⟩
    have q := o.now S _ to_bl
    rw [show decide (a = b) = (a == b) by cases a <;> cases b <;> rfl]
    exact q
  · split at o
    · exact o.elim
    · rename_i hn
      refine .inl ⟨rep_non hy, ?_⟩
      rw [rep_isN hx (by simpa using hn)]
      exact o.now S _ to_bl
  · exact o.elim
theorem od_nis : OpR X (compareOp .IsNot) (rD2 X.K E nisD) := opR_imp (opR_or op_notN op_notBl) fun x y H Q ⟨μ, ν, dx, dy, st, S, hx, hy, o⟩ => by
  unfold nisD at o
  split at o
  · rename_i a b
    refine .inr ⟨a, b, rep_bl hx, rep_bl hy, ?_⟩
    have q := o.now S _ to_bl
    rw [show decide (a = b) = (a == b) by cases a <;> cases b <;> rfl]
    exact q
  · split at o
    · exact o.elim
    · rename_i hn
      refine .inl ⟨rep_non hy, ?_⟩
      rw [rep_isN hx (by simpa using hn)]
      exact o.now S _ to_bl
  · exact o.elim
end

/-! ### subscripts -/
def ixD (x y : D) : M D := fun st => match y with
  | .int i => match asL st x with
    | some xs => match atI xs i with
      | some d => some (.ok d st)
      | none => none
    | none => match asT x with
      | some xs => match atI xs i with
        | some d => some (.ok d st)
        | none => none
      | none => none
  | _ => none
theorem reps_at {K : PySem.W.Frag} {μ : Mu} {G : Hp} {xs : List D} {vs : List V} {i : Int} {d : D} (h : Reps K μ G xs vs) (e : atI xs i = some d) : ∃ v, atI vs i = some v ∧ Rep K μ G d v := by
  unfold atI at e ⊢
  rw [← h.len]
  cases q : ixN xs.length i with
  | none => rw [q] at e; cases e
  | some j =>
    rw [q] at e
    exact h.get e
section
variable {X : Cx} {E : XK}
theorem od_ix : IxR X (rD2 X.K E ixD) := by
  have base : IxR X (fun x y H Q => rIxL X.K x y H Q ∨ rIxT X.K x y H Q) := ix_list.or ix_tup
  intro value slice pins s σ H x y v u Q I rx ry q hsub
  refine base value slice pins s σ H x y v u Q I rx ry ?_ hsub
  obtain ⟨μ, ν, dx, dy, st, S, hx, hy, o⟩ := q
  unfold ixD at o
  split at o
  · split at o
    · rename_i h1
      split at o
      · rename_i d hd
        obtain ⟨a, vs, e1, e2, e3, e4⟩ := asL_rep S hx h1
        obtain ⟨w, f1, f2⟩ := reps_at e4 hd
        exact .inl ⟨a, vs, _, w, e1, rep_int hy, e2, f1, o.now S _ f2⟩
      · exact o.elim
    · split at o
      · rename_i h1
        split at o
        · rename_i d hd
          obtain ⟨a, vs, e1, e2, e3, e4⟩ := asT_rep hx h1
          obtain ⟨w, f1, f2⟩ := reps_at e4 hd
          exact .inr ⟨a, vs, _, w, e1, rep_int hy, e2, f1, o.now S _ f2⟩
        · exact o.elim
      · exact o.elim
  · exact o.elim
theorem de_ix {a b : Expr} {pos : Pos} {fa fb : EF} (ha : DE X E a fa) (hb : DE X E b fb) (hs : PlainIx b) : DE X E (.Subscript a b pos) (eOp2 ixD fa fb) :=
  pe_imp (pe_ix od_ix ha hb hs) fun σ H Q h => tD_op2 h
end
end DL
end
section
namespace DL
open PySem PySem.Spec PyProof.Rows L2

/-! ### tests -/
def truD (d : D) : M Bool := fun st => match d with
  | .bl b => some (.ok b st)
  | .int i => some (.ok (i != 0) st)
  | .non => some (.ok false st)
  | .tup xs => some (.ok (!xs.isEmpty) st)
  | d => match asL st d with
    | some xs => some (.ok (!xs.isEmpty) st)
    | none => none
theorem reps_empty {K : PySem.W.Frag} {μ : Mu} {G : Hp} {xs : List D} {vs : List V} (h : Reps K μ G xs vs) : vs.isEmpty = xs.isEmpty := by
  have := h.len
  cases xs <;> cases vs <;> simp_all
section
variable {K : PySem.W.Frag} {μ : Mu} {ν : List Addr} {H : Hp} {st : Sto}
theorem truD_rep {E : XK} (S : StoOk K μ ν H st) {d : D} {v : V} {k : Bool → Sto → Mu → Hp → Prop} (h : Rep K μ (hid μ ν H) d v) (o : Out K ν E μ H (truD d st) k) : ∃ b, TruV K v H b ∧ k b st μ H := by
  unfold truD at o
  split at o
  · rw [rep_bl h]; exact ⟨_, rfl, o.now S⟩
  · rw [rep_int h]; exact ⟨_, rfl, o.now S⟩
  · rw [rep_non h]; exact ⟨_, rfl, o.now S⟩
  · obtain ⟨a, vs, rfl, e2, e3, e4⟩ := asT_rep h rfl
    refine ⟨_, ?_, o.now S⟩
    exact .inr (.inl ⟨vs, e2, by rw [reps_empty e4]⟩)
  · split at o
    · rename_i h1
      obtain ⟨a, vs, rfl, e2, e3, e4⟩ := asL_rep S h h1
      refine ⟨_, ?_, o.now S⟩
      exact .inl ⟨vs, e2, by rw [reps_empty e4]⟩
    · exact o.elim
end
section
variable {X : Cx} {E : XK}
def eTru (f : EF) : En → M Bool := fun δ => (f δ).bind truD
theorem dt_tru {e : Expr} {f : EF} (h : DE X E e f) (he : ∀ whole, isTrue e X.env whole = (do let v ← whole; standAt e.pos; holding [v] (truthy v)) := by intro _; rfl) : DT X E e (eTru f) :=
  pt_imp (pt_truth h he) fun σ H Q ⟨μ, ν, δ, st, S, o⟩ => by
    refine ⟨μ, ν, δ, st, S, o.fst.imp fun x st1 μ1 H1 e1 s1 o1 v hv => ?_⟩
    exact truD_rep s1 hv o1
def bD (d : D) : M Bool := fun st => match d with
  | .bl b => some (.ok b st)
  | _ => none
def eB (f : EF) : En → M Bool := fun δ => (f δ).bind bD
theorem bD_rep {K : PySem.W.Frag} {μ : Mu} {ν : List Addr} {H : Hp} {st : Sto} (S : StoOk K μ ν H st) {d : D} {v : V} {k : Bool → Sto → Mu → Hp → Prop} (h : Rep K μ (hid μ ν H) d v) (o : Out K ν E μ H (bD d st) k) : ∃ b, v = .bl b ∧ k b st μ H := by
  unfold bD at o
  split at o
  · exact ⟨_, rep_bl h, o.now S⟩
  · exact o.elim
theorem tDb_test {K : PySem.W.Frag} {f : EF} {t : TE} (ht : ∀ σ H Q, tD K E f σ H Q → t σ H Q) {σ : L2.St} {H : Hp} {Q : Bool → Hp → Prop} (h : tDb K E (eB f) σ H Q) : tTest t σ H Q := by
  obtain ⟨μ, ν, δ, st, S, o⟩ := h
  refine ht _ _ _ ⟨μ, ν, δ, st, S, o.fst.imp fun x st1 μ1 H1 e1 s1 o1 v hv => ?_⟩
  obtain ⟨b, e, q⟩ := bD_rep s1 hv o1
  exact ⟨b, e, q⟩
theorem dt_val {e : Expr} {f : EF} (h : DE X E e f) (he : ∀ whole, isTrue e X.env whole = (do let v ← whole; standAt e.pos; holding [v] (truthy v)) := by intro _; rfl) : DT X E e (eB f) :=
  pt_imp (pt_val h he) fun σ H Q h => tDb_test (fun _ _ _ z => z) h
theorem dt_cmp {a b : Expr} {op : CmpOp} {pos : Pos} {r : D → D → M D} {fa fb : EF} (ho : OpR X (compareOp op) (rD2 X.K E r)) (ha : DE X E a fa) (hb : DE X E b fb) (hm : behindInMarks op b = false) : DT X E (.Compare a [op] [b] pos) (eB (eOp2 r fa fb)) :=
  pt_imp (pt_cmpR ho ha hb hm) fun σ H Q h => tDb_test (fun _ _ _ z => tD_op2 z) h
/-- a op b op' c -/
def eCh (r r' : D → D → M D) (fa fb fc : EF) : EF := fun δ => (fa δ).bind fun x => (fb δ).bind fun y => (r x y).bind fun z => (bD z).bind fun b => if b = true then (fc δ).bind fun w => r' y w else M.pure (.bl false)
theorem tD_ch {K : PySem.W.Frag} {r r' : D → D → M D} {fa fb fc : EF} {σ : L2.St} {H : Hp} {Q : VK} (h : tD K E (eCh r r' fa fb fc) σ H Q) : tChain (rD2 K E r) (rD2 K E r') (tD K E fa) (tD K E fb) (tD K E fc) σ H Q := by
  obtain ⟨μ, ν, δ, st, S, o⟩ := h
  refine ⟨μ, ν, δ, st, S, o.fst.imp fun x st1 μ1 H1 e1 s1 o1 v hv => ?_⟩
  have S1 := S.ext e1 s1
  refine ⟨μ1, ν, δ, st1, S1, o1.fst.imp fun y st2 μ2 H2 e2 s2 o2 u hu => ?_⟩
  have S2 := S1.ext e2 s2
  refine ⟨μ2, ν, x, y, st2, s2, hv.ext e2, hu, o2.fst.imp fun z st3 μ3 H3 e3 s3 o3 w hw => ?_⟩
  have S3 := S2.ext e3 s3
  obtain ⟨b, rfl, o4⟩ := bD_rep s3 hw o3.fst
  refine ⟨b, rfl, ?_⟩
  cases b with
  | false =>
    rw [if_neg (by decide)] at o4 ⊢
    exact o4.ret s3 _ to_bl
  | true =>
    rw [if_pos rfl] at o4 ⊢
    refine ⟨μ3, ν, δ, st3, S3, o4.fst.imp fun w' st4 μ4 H4 e4 s4 o5 u' hu' => ?_⟩
    exact ⟨μ4, ν, y, w', st4, s4, (hu.ext e3).ext e4, hu', o5⟩
theorem de_ch {a b c : Expr} {op op' : CmpOp} {pos : Pos} {r r' : D → D → M D} {fa fb fc : EF} (ho : OpR X (compareOp op) (rD2 X.K E r)) (ho' : OpR X (compareOp op') (rD2 X.K E r')) (ha : DE X E a fa) (hb : DE X E b fb) (hc : DE X E c fc)
    (hm : lastMarks [op, op'] [b, c] = false := by with_unfolding_all rfl) : DE X E (.Compare a [op, op'] [b, c] pos) (eCh r r' fa fb fc) := pe_imp (pe_chain ho ho' ha hb hc hm) fun σ H Q h => tD_ch h
theorem dt_ch {a b c : Expr} {op op' : CmpOp} {pos : Pos} {r r' : D → D → M D} {fa fb fc : EF} (ho : OpR X (compareOp op) (rD2 X.K E r)) (ho' : OpR X (compareOp op') (rD2 X.K E r')) (ha : DE X E a fa) (hb : DE X E b fb) (hc : DE X E c fc)
    (hm : lastMarks [op, op'] [b, c] = false := by with_unfolding_all rfl) : DT X E (.Compare a [op, op'] [b, c] pos) (eB (eCh r r' fa fb fc)) := pt_imp (pt_chain ho ho' ha hb hc hm) fun σ H Q h => tDb_test (fun _ _ _ z => tD_ch z) h
def tAndD (f g : En → M Bool) : En → M Bool := fun δ => (f δ).bind fun b => if b = true then g δ else M.pure false
def tOrD (f g : En → M Bool) : En → M Bool := fun δ => (f δ).bind fun b => if b = true then M.pure true else g δ
def tNotD (f : En → M Bool) : En → M Bool := fun δ => (f δ).bind fun b => M.pure (!b)
abbrev DW (X : Cx) (E : XK) (e : Expr) (f : En → M Bool) : Prop := PW X e (tDb X.K E f)
theorem pw_imp {e : Expr} {t t' : TT} (h : PW X e t) (i : ∀ σ H Q, t' σ H Q → t σ H Q) : PW X e t' := ⟨fun wh pins s σ H Q I q => h.run wh pins s σ H Q I (i _ _ _ q)⟩
section
variable {a b : Expr} {rest : List Expr} {pos : Pos} {f g : En → M Bool}
theorem dw_and1 (h : DT X E a f) : DW X E (.BoolOp .And [a] pos) f := pw_and1 h
theorem dw_or1 (h : DT X E a f) : DW X E (.BoolOp .Or [a] pos) f := pw_or1 h
theorem dw_and (h : DT X E a f) (h2 : DW X E (.BoolOp .And (b :: rest) pos) g) : DW X E (.BoolOp .And (a :: b :: rest) pos) (tAndD f g) := pw_imp (pw_and h h2) fun σ H Q ⟨μ, ν, δ, st, S, o⟩ => by
  refine ⟨μ, ν, δ, st, S, o.fst.imp fun x st1 μ1 H1 e1 s1 o1 => ?_⟩
  cases x with
  | true => exact ⟨μ1, ν, δ, st1, S.ext e1 s1, o1⟩
  | false => exact o1.ret s1
theorem dw_or (h : DT X E a f) (h2 : DW X E (.BoolOp .Or (b :: rest) pos) g) : DW X E (.BoolOp .Or (a :: b :: rest) pos) (tOrD f g) := pw_imp (pw_or h h2) fun σ H Q ⟨μ, ν, δ, st, S, o⟩ => by
  refine ⟨μ, ν, δ, st, S, o.fst.imp fun x st1 μ1 H1 e1 s1 o1 => ?_⟩
  cases x with
  | false => exact ⟨μ1, ν, δ, st1, S.ext e1 s1, o1⟩
  | true => exact o1.ret s1
theorem dt_not (h : DT X E a f) : DT X E (.UnaryOp .Not a pos) (tNotD f) := pt_imp (pt_not h) fun σ H Q ⟨μ, ν, δ, st, S, o⟩ => by
  refine ⟨μ, ν, δ, st, S, o.fst.imp fun x st1 μ1 H1 e1 s1 o1 => ?_⟩
  exact o1.ret s1
/-! and, or, not of bools as values -/
def eAnd (f g : EF) : EF := fun δ => (f δ).bind fun x => (bD x).bind fun b => if b = true then g δ else M.pure (.bl false)
def eOr (f g : EF) : EF := fun δ => (f δ).bind fun x => (bD x).bind fun b => if b = true then M.pure (.bl true) else g δ
def eNot (f : EF) : EF := fun δ => (f δ).bind fun x => (bD x).bind fun b => M.pure (.bl (!b))
variable {fa fb : EF} {op : BoolOp}
theorem de_one (h : DE X E a fa) : DE X E (.BoolOp op [a] pos) fa := pe_one h
theorem de_and (h : DE X E a fa) (h2 : DE X E (.BoolOp .And (b :: rest) pos) fb) : DE X E (.BoolOp .And (a :: b :: rest) pos) (eAnd fa fb) := pe_imp (pe_and h h2) fun σ H Q ⟨μ, ν, δ, st, S, o⟩ => by
  refine ⟨μ, ν, δ, st, S, o.fst.imp fun x st1 μ1 H1 e1 s1 o1 v hv => ?_⟩
  obtain ⟨c, rfl, o2⟩ := bD_rep s1 hv o1.fst
  refine ⟨c, rfl, ?_⟩
  cases c with
  | true => exact ⟨μ1, ν, δ, st1, S.ext e1 s1, o2⟩
  | false => exact o2.ret s1 _ to_bl
theorem de_or (h : DE X E a fa) (h2 : DE X E (.BoolOp .Or (b :: rest) pos) fb) : DE X E (.BoolOp .Or (a :: b :: rest) pos) (eOr fa fb) := pe_imp (pe_or h h2) fun σ H Q ⟨μ, ν, δ, st, S, o⟩ => by
  refine ⟨μ, ν, δ, st, S, o.fst.imp fun x st1 μ1 H1 e1 s1 o1 v hv => ?_⟩
  obtain ⟨c, rfl, o2⟩ := bD_rep s1 hv o1.fst
  refine ⟨c, rfl, ?_⟩
  cases c with
  | false => exact ⟨μ1, ν, δ, st1, S.ext e1 s1, o2⟩
  | true => exact o2.ret s1 _ to_bl
theorem de_not (h : DE X E a fa) : DE X E (.UnaryOp .Not a pos) (eNot fa) := pe_imp (pe_not h) fun σ H Q ⟨μ, ν, δ, st, S, o⟩ => by
  refine ⟨μ, ν, δ, st, S, o.fst.imp fun x st1 μ1 H1 e1 s1 o1 v hv => ?_⟩
  obtain ⟨c, rfl, o2⟩ := bD_rep s1 hv o1.fst
  exact ⟨c, rfl, o2.ret s1 _ to_bl⟩
def eIf (c : En → M Bool) (fa fb : EF) : EF := fun δ => (c δ).bind fun b => if b = true then fa δ else fb δ
theorem de_if {c : Expr} {fc : En → M Bool} (hc : DT X E c fc) (ha : DE X E a fa) (hb : DE X E b fb) : DE X E (.IfExp c a b pos) (eIf fc fa fb) := pe_imp (pe_ifExp hc ha hb) fun σ H Q ⟨μ, ν, δ, st, S, o⟩ => by
  refine ⟨μ, ν, δ, st, S, o.fst.imp fun x st1 μ1 H1 e1 s1 o1 => ?_⟩
  cases x with
  | true => exact ⟨μ1, ν, δ, st1, S.ext e1 s1, o1⟩
  | false => exact ⟨μ1, ν, δ, st1, S.ext e1 s1, o1⟩
end
end

/-! ### statements -/
section
variable {X : Cx} {E : XK} {pos : Pos}
def sNext : SF := fun δ => M.pure (.nx δ)
def sSeq (f g : SF) : SF := fun δ => (f δ).bind fun fl => match fl with
  | .nx δ' => g δ'
  | fl => M.pure fl
theorem dss_nil : DSs X E [] sNext := pss_imp pss_nil fun T σ H ⟨μ, ν, δ, st, S, o⟩ => o.ret S.sto σ S.env
theorem dss_one {s : Stmt} {f : SF} (h : DSt X E s f) : DSs X E [s] f := pss_one h
theorem dss_cons {s : Stmt} {r : List Stmt} {f g : SF} (h : DSt X E s f) (h2 : DSs X E r g) : DSs X E (s :: r) (sSeq f g) := pss_imp (pss_cons h h2) fun T σ H ⟨μ, ν, δ, st, S, o⟩ => by
  refine ⟨μ, ν, δ, st, S, o.fst.imp fun fl st1 μ1 H1 e1 s1 o1 => ?_⟩
  cases fl with
  | nx δ' => exact fun σ' hσ => ⟨μ1, ν, δ', st1, ⟨s1, hσ⟩, o1⟩
  | rt d => exact o1.ret s1
  | bk δ' => exact o1.ret s1
  | ct δ' => exact o1.ret s1
def sRet (f : EF) : SF := fun δ => (f δ).bind fun d => M.pure (.rt d)
theorem ds_ret {e : Expr} {f : EF} (h : DE X E e f) : DSt X E (.Return (some e) pos) (sRet f) := ps_imp (ps_ret h) fun T σ H ⟨μ, ν, δ, st, S, o⟩ => by
  refine ⟨μ, ν, δ, st, S, o.fst.imp fun d st1 μ1 H1 e1 s1 o1 v hv => ?_⟩
  exact o1.ret s1 v hv
def sIf (c : En → M Bool) (f g : SF) : SF := fun δ => (c δ).bind fun b => if b = true then f δ else g δ
theorem ds_if {c : Expr} {a b : List Stmt} {fc : En → M Bool} {f g : SF} (hc : DT X E c fc) (ha : DSs X E a f) (hb : DSs X E b g) : DSt X E (.If c a b pos) (sIf fc f g) := ps_imp (ps_if hc ha hb) fun T σ H ⟨μ, ν, δ, st, S, o⟩ => by
  refine ⟨μ, ν, δ, st, S, o.fst.imp fun x st1 μ1 H1 e1 s1 o1 => ?_⟩
  cases x with
  | true => exact ⟨μ1, ν, δ, st1, S.ext e1 s1, o1⟩
  | false => exact ⟨μ1, ν, δ, st1, S.ext e1 s1, o1⟩
def sExpr (f : EF) : SF := fun δ => (f δ).bind fun _ => M.pure (.nx δ)
theorem ds_expr {e : Expr} {f : EF} (h : DE X E e f) (hs : swapsWith e none pos.line X.env = pure false := by rfl) : DSt X E (.Expr e pos) (sExpr f) := ps_imp (ps_expr h hs) fun T σ H ⟨μ, ν, δ, st, S, o⟩ => by
  refine ⟨μ, ν, δ, st, S, o.fst.imp fun d st1 μ1 H1 e1 s1 o1 v hv => ?_⟩
  exact o1.ret s1 σ (S.env.ext e1)
def sPass : SF := sNext
theorem ds_pass : DSt X E (.Pass pos) sNext := ps_imp ps_pass fun T σ H ⟨μ, ν, δ, st, S, o⟩ => o.ret S.sto σ S.env
def sBreak : SF := fun δ => M.pure (.bk δ)
def sCont : SF := fun δ => M.pure (.ct δ)
theorem ds_break : DSt X E (.Break pos) sBreak := ps_imp ps_break fun T σ H ⟨μ, ν, δ, st, S, o⟩ => o.ret S.sto σ S.env
theorem ds_cont : DSt X E (.Continue pos) sCont := ps_imp ps_continue fun T σ H ⟨μ, ν, δ, st, S, o⟩ => o.ret S.sto σ S.env

/-! ### targets -/
abbrev TgF := D → En → M En
def tDG (K : PySem.W.Frag) (E : XK) (g : TgF) : TG := fun v σ H Q => ∃ μ ν d δ st, Sit K μ ν δ st σ H ∧ Rep K μ (hid μ ν H) d v ∧ Out K ν E μ H (g d δ st) fun δ' st' μ' H' => ∀ σ', SimE K μ' (hid μ' ν H') δ' σ' → Q σ' H'
abbrev DG (X : Cx) (E : XK) (tg : Expr) (g : TgF) : Prop := PG X tg (tDG X.K E g)
theorem pg_imp {e : Expr} {t t' : TG} (h : PG X e t) (i : ∀ v σ H Q, t' v σ H Q → t v σ H Q) : PG X e t' := ⟨fun pins s σ H v u Q I r q => h.run pins s σ H v u Q I r (i _ _ _ _ q)⟩
def gN (i : Nat) : TgF := fun d δ => M.pure (δ.set i (some d))
theorem dg_name {i : Nat} {e : Expr} (h : PG X e (gName i)) : DG X E e (gN i) := pg_imp h fun v σ H Q ⟨μ, ν, d, δ, st, S, hv, o⟩ => o.ret S.sto _ (S.env.set hv)
def gTs : List TgF → List D → En → M En
  | [], [], δ => M.pure δ
  | g :: gs, d :: ds, δ => (g d δ).bind fun δ' => gTs gs ds δ'
  | _, _, _ => M.no
def gT (gs : List TgF) : TgF := fun d δ st => match asT d with
  | some xs => if xs.length = gs.length then gTs gs xs δ st else none
  | none => none
def tDGs (K : PySem.W.Frag) (E : XK) (gs : List TgF) : TGs := fun vs σ H Q => ∃ μ ν ds δ st, Sit K μ ν δ st σ H ∧ Reps K μ (hid μ ν H) ds vs ∧ Out K ν E μ H (gTs gs ds δ st) fun δ' st' μ' H' => ∀ σ', SimE K μ' (hid μ' ν H') δ' σ' → Q σ' H'
abbrev DGs (X : Cx) (E : XK) (tg : List Expr) (g : List TgF) : Prop := PGs X tg (tDGs X.K E g)
theorem pgs_imp {e : List Expr} {t t' : TGs} (h : PGs X e t) (i : ∀ v σ H Q, t' v σ H Q → t v σ H Q) : PGs X e t' := ⟨fun pins s σ H v u Q I r q => h.run pins s σ H v u Q I r (i _ _ _ _ q)⟩
theorem dgs_nil : DGs X E [] [] := pgs_imp pgs_nil fun v σ H Q ⟨μ, ν, ds, δ, st, S, hv, o⟩ => by
  cases ds with
  | nil =>
    unfold Reps at hv
    exact ⟨hv, o.ret S.sto σ S.env⟩
  | cons d ds => exact o.elim
theorem dgs_cons {e : Expr} {es : List Expr} {g : TgF} {gs : List TgF} (h1 : DG X E e g) (h2 : DGs X E es gs) (hs : (assignEach (e :: es) X.env).map (·.2) = assign e X.env :: (assignEach es X.env).map (·.2) := by rfl) : DGs X E (e :: es) (g :: gs) :=
  pgs_imp (pgs_cons h1 h2 hs) fun v σ H Q ⟨μ, ν, ds, δ, st, S, hv, o⟩ => by
    cases ds with
    | nil => exact o.elim
    | cons d ds =>
      unfold Reps at hv
      obtain ⟨w, r, rfl, hw, hr⟩ := hv
      refine ⟨w, r, rfl, μ, ν, d, δ, st, S, hw, ?_⟩
      refine Out.imp (Out.fst (m := g d δ) (f := fun δ' => gTs gs ds δ') o) fun δ' st1 μ1 H1 e1 s1 o1 σ' hσ => ?_
      exact ⟨μ1, ν, ds, δ', st1, ⟨s1, hσ⟩, hr.ext e1, o1⟩
theorem dg_tup {es : List Expr} {k : Nat} {gs : List TgF} {n : Nat} (hc : X.calm = true) (h : DGs X E es gs) (hl : gs.length = n := by rfl)
    (hn : (assignEach es X.env).length = n := by rfl) (hst : (assignEach es X.env).findIdx? (·.1) = none := by rfl) : DG X E (.Tuple es k pos) (gT gs) :=
  pg_imp (pg_tup (n := n) hc h hn hst) fun v σ H Q ⟨μ, ν, d, δ, st, S, hv, o⟩ => by
    unfold gT at o
    split at o
    · rename_i xs hx
      split at o
      · rename_i hlen
        obtain ⟨a, vs, rfl, e2, e3, e4⟩ := asT_rep hv hx
        exact ⟨a, vs, rfl, e2, by rw [← e4.len, hlen, hl], μ, ν, xs, δ, st, S, e4, o⟩
      · exact o.elim
    · exact o.elim
def sAsg (f : EF) (g : TgF) : SF := fun δ => (f δ).bind fun d => (g d δ).bind fun δ' => M.pure (.nx δ')
theorem tDS_asg {K : PySem.W.Frag} {f : EF} {g : TgF} {T : Ends} {σ : L2.St} {H : Hp} (h : tDS K E (sAsg f g) T σ H) : tAsg (tD K E f) (tDG K E g) T σ H := by
  obtain ⟨μ, ν, δ, st, S, o⟩ := h
  refine ⟨μ, ν, δ, st, S, o.fst.imp fun d st1 μ1 H1 e1 s1 o1 v hv => ?_⟩
  refine ⟨μ1, ν, d, δ, st1, S.ext e1 s1, hv, o1.fst.imp fun δ' st2 μ2 H2 e2 s2 o2 σ' hσ => ?_⟩
  exact o2.ret s2 σ' hσ
theorem ds_asg {tg e : Expr} {f : EF} {g : TgF} (he : DE X E e f) (hg : DG X E tg g) (hs : swapsWithSole [tg] e pos.line X.env = pure false := by rfl) (hw : swappedStores [tg] e X.env = pure none := by rfl)
    (h1 : (assignEach [tg] X.env).map (·.2) = [assign tg X.env] := by rfl) : DSt X E (.Assign [tg] e pos) (sAsg f g) := ps_imp (ps_asg he hg hs hw h1) fun T σ H h => tDS_asg h
theorem ds_set {i : Nat} {x : Str} {e : Expr} {f : EF} {pos' : Pos} (he : DE X E e f) (h : ∀ {te : TE}, PE X e te → PS X (.Assign [.Name x pos'] e pos) (tAsg te (gName i))) : DSt X E (.Assign [.Name x pos'] e pos) (sAsg f (gN i)) :=
  ps_imp (h he) fun T σ H ⟨μ, ν, δ, st, S, o⟩ => by
    refine ⟨μ, ν, δ, st, S, o.fst.imp fun d st1 μ1 H1 e1 s1 o1 v hv => ?_⟩
    exact (o1.fst.ret s1).ret s1 _ ((S.env.ext e1).set hv)
/-- a, b = x, y -/
def sPar2 (i j : Nat) (f : En → M (List D)) : SF := fun δ => (f δ).bind fun ds => match ds with
  | [x, y] => M.pure (.nx ((δ.set i (some x)).set j (some y)))
  | _ => M.no
theorem ds_par {i j : Nat} {s : Stmt} {f : En → M (List D)} {es : List Expr} (he : DA X E es f) (h : ∀ {te : TA}, PA X es te → PS X s (tPar i j te)) : DSt X E s (sPar2 i j f) :=
  ps_imp (h he) fun T σ H ⟨μ, ν, δ, st, S, o⟩ => by
    refine ⟨μ, ν, δ, st, S, o.fst.imp fun ds st1 μ1 H1 e1 s1 o1 vs hv => ?_⟩
    match ds, o1, hv with
    | [x, y], o1, hv =>
      unfold Reps at hv
      obtain ⟨v, r, rfl, hv1, hr⟩ := hv
      unfold Reps at hr
      obtain ⟨w, r2, rfl, hw1, hr2⟩ := hr
      unfold Reps at hr2
      subst hr2
      exact ⟨v, w, rfl, o1.ret s1 _ (((S.env.ext e1).set hv1).set hw1)⟩
    | [], o1, _ => exact o1.elim
    | [_], o1, _ => exact o1.elim
    | _ :: _ :: _ :: _, o1, _ => exact o1.elim
def sPar3 (i j l : Nat) (f : En → M (List D)) : SF := fun δ => (f δ).bind fun ds => match ds with
  | [x, y, z] => M.pure (.nx (((δ.set i (some x)).set j (some y)).set l (some z)))
  | _ => M.no
theorem ds_par3 {i j l : Nat} {s : Stmt} {f : En → M (List D)} {es : List Expr} (he : DA X E es f) (h : ∀ {te : TA}, PA X es te → PS X s (tPar3 i j l te)) : DSt X E s (sPar3 i j l f) :=
  ps_imp (h he) fun T σ H ⟨μ, ν, δ, st, S, o⟩ => by
    refine ⟨μ, ν, δ, st, S, o.fst.imp fun ds st1 μ1 H1 e1 s1 o1 vs hv => ?_⟩
    match ds, o1, hv with
    | [x, y, z], o1, hv =>
      unfold Reps at hv
      obtain ⟨v, r, rfl, hv1, hr⟩ := hv
      unfold Reps at hr
      obtain ⟨w, r2, rfl, hw1, hr2⟩ := hr
      unfold Reps at hr2
      obtain ⟨u, r3, rfl, hu1, hr3⟩ := hr2
      unfold Reps at hr3
      subst hr3
      exact ⟨v, w, u, rfl, o1.ret s1 _ ((((S.env.ext e1).set hv1).set hw1).set hu1)⟩
    | [], o1, _ => exact o1.elim
    | [_], o1, _ => exact o1.elim
    | [_, _], o1, _ => exact o1.elim
    | _ :: _ :: _ :: _ :: _, o1, _ => exact o1.elim
/-! ### a list's place changed -/
def setD (o i d : D) : M Unit := fun st => match o, i with
  | .obj j, .int k => match st[j]? with
    | some (.lst xs) => match ixN xs.length k with
      | some n => some (.ok () (st.set j (.lst (xs.set n d))))
      | none => none
    | _ => none
  | _, _ => none
def gSubD (fo fi : EF) : TgF := fun d δ => (fo δ).bind fun o => (fi δ).bind fun i => (setD o i d).bind fun _ => M.pure δ
theorem dg_sub {o i : Expr} {fo fi : EF} (ho : DE X E o fo) (hi : DE X E i fi)
    (ha : ∀ v, assign (.Subscript o i pos) X.env v = (do
      let ov ← holding [v] (eval o X.env)
      let iv ← holding [v, ov] (eval i X.env)
      standAt pos
      holding [v, ov, iv] (setItem ov iv v)
      release [v, ov, iv] []) := by intro _; rfl) : DG X E (.Subscript o i pos) (gSubD fo fi) := pg_imp (pg_sub ho hi set_list ha) fun v σ H Q ⟨μ, ν, d, δ, st, S, hv, o⟩ => by
  refine ⟨μ, ν, δ, st, S, o.fst.imp fun x st1 μ1 H1 e1 s1 o1 vx hx => ?_⟩
  have S1 := S.ext e1 s1
  refine ⟨μ1, ν, δ, st1, S1, o1.fst.imp fun y st2 μ2 H2 e2 s2 o2 vy hy => ?_⟩
  have S2 := S1.ext e2 s2
  have o3 := o2.fst
  unfold setD at o3
  split at o3
  · rename_i j k
    split at o3
    · rename_i xs hc
      split at o3
      · rename_i n hn
        obtain ⟨⟨a, vs, h1, h2, h3, h4⟩, hav⟩ := s2.obj (hx.ext e2) hc
        refine ⟨a, vs, k, n, hav a h1, rep_int hy, h2, by rw [← h4.len]; exact hn, ?_⟩
        have hv2 := (hv.ext e1).ext e2
        have e3 : Ext ν μ2 H2 μ2 (upd H2 a (.lst (vs.set n v))) := (s2.put (c := .dead) h1 trivial).2
        have P := s2.put (o := .lst (vs.set n v)) (c := .lst (xs.set n d)) h1 ⟨a, _, h1, upd_same, by rw [List.length_set]; exact h3, (h4.set hv2 n).ext e3⟩
        have q := o3 _ _ P.2 P.1
        exact q.ret P.1 σ (S2.env.ext P.2)
      · exact o3.elim
    · exact o3.elim
  · exact o3.elim
end
end DL
end
section
namespace DL
open PySem PySem.Spec PyProof.Rows L2

/-! ### one object beside the rest -/
def rem (a : Addr) (H : Hp) : Hp := fun b => if b = a then none else H b
section
variable {K : PySem.W.Frag} {μ μ' : Mu} {ν : List Addr} {H H' : Hp} {st st' : Sto} {E : XK} {a : Addr}
theorem rem_same : rem a H a = none := by unfold rem; rw [if_pos rfl]
theorem rem_ne {b : Addr} (h : b ≠ a) : rem a H b = H b := by unfold rem; rw [if_neg h]
theorem hid_rem : hid μ (a :: ν) H = hid μ ν (rem a H) := by
  funext b
  by_cases hb : b = a
  · subst hb
    unfold hid
    rw [if_pos (.inr (List.mem_cons_self)), rem_same]
    split <;> rfl
  · unfold hid
    rw [rem_ne hb]
    by_cases h1 : some b ∈ μ ∨ b ∈ ν
    · rw [if_pos h1, if_pos (h1.elim .inl fun z => .inr (List.mem_cons_of_mem _ z))]
    · rw [if_neg h1, if_neg]
      intro z
      rcases z with z | z
      · exact h1 (.inl z)
      · rcases List.mem_cons.mp z with z | z
        · exact hb z
        · exact h1 (.inr z)
theorem ext_rem (e : Ext (a :: ν) μ H μ' H') : Ext ν μ (rem a H) μ' (rem a H') := by
  refine ⟨e.mu, ?_, fun b hb => ?_⟩
  · rw [← hid_rem, ← hid_rem]; exact e.same
  · by_cases z : b = a
    · subst z; rw [rem_same, rem_same]
    · rw [rem_ne z, rem_ne z]; exact e.out b (List.mem_cons_of_mem _ hb)
theorem sto_rem (S : StoOk K μ (a :: ν) H st) (hν : a ∉ ν) : StoOk K μ ν (rem a H) st := by
  have na : ∀ b, some b ∈ μ → b ≠ a := fun b hb z => by subst z; exact (S.out _ (List.mem_cons_self)).2 hb
  refine ⟨S.len, S.inj, fun b hb => by rw [rem_ne (na b hb)]; exact S.live b hb, fun b hb => ?_, fun i c hc => ?_⟩
  · rw [rem_ne (fun z => by subst z; exact hν hb)]; exact S.out b (List.mem_cons_of_mem _ hb)
  · have x := S.cell i c hc
    cases c with
    | dead => trivial
    | lst xs =>
      obtain ⟨b, vs, h1, h2, h3, h4⟩ := x
      rw [hid_rem] at h4
      exact ⟨b, vs, h1, by rw [rem_ne (na b (mem_of_get h1))]; exact h2, h3, h4⟩
    | ins C fs =>
      obtain ⟨b, dx, gs, h1, h2, h3⟩ := x
      rw [hid_rem] at h3
      exact ⟨b, dx, gs, h1, by rw [rem_ne (na b (mem_of_get h1))]; exact h2, h3⟩
theorem sto_unrem (S : StoOk K μ ν (rem a H) st) {o : HO} (ha : H a = some o) (hν : a ∉ ν) : StoOk K μ (a :: ν) H st := by
  have na : ∀ b, some b ∈ μ → b ≠ a := fun b hb z => by
    subst z
    obtain ⟨u, e⟩ := S.live b hb
    rw [rem_same] at e; cases e
  refine ⟨S.len, S.inj, fun b hb => by rw [← rem_ne (H := H) (na b hb)]; exact S.live b hb, fun b hb => ?_, fun i c hc => ?_⟩
  · rcases List.mem_cons.mp hb with z | z
    · subst z
      exact ⟨⟨o, ha⟩, fun q => na _ q rfl⟩
    · obtain ⟨⟨u, e⟩, q⟩ := S.out b z
      exact ⟨⟨u, by rw [rem_ne (fun y => by subst y; exact hν z)] at e; exact e⟩, q⟩
  · have x := S.cell i c hc
    cases c with
    | dead => trivial
    | lst xs =>
      obtain ⟨b, vs, h1, h2, h3, h4⟩ := x
      rw [← hid_rem] at h4
      exact ⟨b, vs, h1, by rw [← rem_ne (H := H) (na b (mem_of_get h1))]; exact h2, h3, h4⟩
    | ins C fs =>
      obtain ⟨b, dx, gs, h1, h2, h3⟩ := x
      rw [← hid_rem] at h3
      exact ⟨b, dx, gs, h1, by rw [← rem_ne (H := H) (na b (mem_of_get h1))]; exact h2, h3⟩
theorem rem_upd {o : HO} (h : H a = none) : rem a (upd H a o) = H := by
  funext b
  by_cases z : b = a
  · subst z; rw [rem_same, h]
  · rw [rem_ne z, upd_ne z]
theorem rem_upd' {o : HO} : rem a (upd H a o) = rem a H := by
  funext b
  by_cases z : b = a
  · subst z; rw [rem_same, rem_same]
  · rw [rem_ne z, rem_ne z, upd_ne z]
theorem upd_rem {o : HO} (h : H a = some o) : upd (rem a H) a o = H := by
  funext b
  by_cases z : b = a
  · subst z; rw [upd_same, h]
  · rw [upd_ne z, rem_ne z]
/-- run beside the object at a, no exception -/
theorem Out.beside {α : Type} {o : Option (R α)} {k : α → Sto → Mu → Hp → Prop} (hν : a ∉ ν) (h : Out K ν E0 μ (rem a H) o k) : Out K (a :: ν) E0 μ H o fun x st' μ' H' => k x st' μ' (rem a H') ∧ H' a = H a := by
  unfold Out at h ⊢
  cases o with
  | none => exact h
  | some r =>
    cases r with
    | ok x st' => exact fun μ2 H2 e s => ⟨h μ2 _ (ext_rem e) (sto_rem s hν), e.out a (List.mem_cons_self)⟩
    | er C fs st' => exact fun μ2 H2 d e s x => h μ2 (rem a H2) d (ext_rem e) (sto_rem s hν) (by
        cases fs with
        | none => exact x
        | some fs =>
          obtain ⟨b, gs, h1, h2, h3⟩ := x
          rw [hid_rem] at h2 h3
          exact ⟨b, gs, h1, h2, h3⟩)
/-- no exception comes -/
def noer {α : Type} (m : M α) : M α := fun st => match m st with
  | some (.er _ _ _) => none
  | r => r
theorem Out.noer {α : Type} {m : M α} {k : α → Sto → Mu → Hp → Prop} (h : Out K ν E μ H (DL.noer m st) k) : Out K ν E0 μ H (m st) k := by
  unfold DL.noer at h
  cases e : m st with
  | none => rw [e] at h; exact h
  | some r =>
    rw [e] at h
    cases r with
    | ok a st' => exact h
    | er C fs st' => exact h.elim
end

/-! ### what is walked -/
/-- all that was seen is seen, in whatever frame -/
structure Seen (ν : List Addr) (μ0 : Mu) (H0 : Hp) (ν' : List Addr) (μ : Mu) (H : Hp) : Prop where
  mu : MuExt μ0 μ
  same : Same (hid μ0 ν H0) (hid μ ν' H)
theorem Ext.seen {ν : List Addr} {μ0 μ : Mu} {H0 H : Hp} (e : Ext ν μ0 H0 μ H) : Seen ν μ0 H0 ν μ H := ⟨e.mu, e.same⟩
theorem Seen.ext {ν ν' : List Addr} {μ0 μ μ' : Mu} {H0 H H' : Hp} (a : Seen ν μ0 H0 ν' μ H) (b : Ext ν' μ H μ' H') : Seen ν μ0 H0 ν' μ' H' := ⟨a.mu.trans b.mu, a.same.trans b.same⟩
structure Gives (K : PySem.W.Frag) (ν : List Addr) (μ0 : Mu) (H0 : Hp) (J : It) (xs : List D) : Prop where
  go : ∀ i ν' μ H, Seen ν μ0 H0 ν' μ H → i < xs.length → J.go i H
  stop : ∀ ν' μ H, Seen ν μ0 H0 ν' μ H → J.stop xs.length H
  yld : ∀ i ν' μ H st x H', Seen ν μ0 H0 ν' μ H → StoOk K μ ν' H st → i < xs.length → J.yld i H x H' → ∃ d, xs[i]? = some d ∧ Ext ν' μ H μ H' ∧ StoOk K μ ν' H' st ∧ Rep K μ (hid μ ν' H') d x
abbrev ItF := En → M (List D)
def tDI (K : PySem.W.Frag) (E : XK) (f : ItF) : TI := fun σ H Rr => ∃ μ ν δ st, Sit K μ ν δ st σ H ∧ Out K ν E μ H (f δ st) fun xs st' μ' H' => ∀ J, Gives K ν μ' H' J xs → Rr J H'
abbrev DI (X : Cx) (E : XK) (tg it : Expr) (f : ItF) : Prop := PI X tg it (tDI X.K E f)
theorem pi_imp {X : Cx} {tg it : Expr} {t t' : TI} (h : PI X tg it t) (i : ∀ σ H Q, t' σ H Q → t σ H Q) : PI X tg it t' := ⟨fun pins s σ H Q I q => h.run pins s σ H Q I (i _ _ _ q)⟩
section
variable {K : PySem.W.Frag} {μ : Mu} {ν : List Addr} {H : Hp} {st : Sto}
/-- what is seen stays -/
theorem seen_sqL {a : Addr} {vs : List V} {ν' : List Addr} {μ' : Mu} {H' : Hp} (h : SqL K (hid μ ν H) a vs) (e : Seen ν μ H ν' μ' H') : SqL K H' a vs := hid_sub.seq (e.same.seq h)
theorem seen_sqT {a : Addr} {vs : List V} {ν' : List Addr} {μ' : Mu} {H' : Hp} (h : SqT K (hid μ ν H) a vs) (e : Seen ν μ H ν' μ' H') : SqT K H' a vs := sqT_same hid_sub (sqT_same e.same h)
theorem gives_list {a : Addr} {vs : List V} {xs : List D} (h : SqL K (hid μ ν H) a vs) (r : Reps K μ (hid μ ν H) xs vs) : Gives K ν μ H (Itl K a) xs where
  go := fun i ν' μ' H' e hi => by
    obtain ⟨v, h1, h2⟩ := r.get (List.getElem?_eq_getElem hi)
    exact ⟨vs, v, seen_sqL h e, h1⟩
  stop := fun ν' μ' H' e => ⟨vs, seen_sqL h e, by rw [r.len]; exact Nat.le_refl _⟩
  yld := fun i ν' μ' H' st x H2 e s hi ⟨e2, q⟩ => by
    subst e2
    obtain ⟨d, h1, h2⟩ := r.get' (q vs (seen_sqL h e))
    exact ⟨d, h1, .refl, s, Rep.mono e.mu e.same d x h2⟩
theorem gives_tup {a : Addr} {vs : List V} {xs : List D} (h : SqT K (hid μ ν H) a vs) (r : Reps K μ (hid μ ν H) xs vs) : Gives K ν μ H (Itt K a) xs where
  go := fun i ν' μ' H' e hi => by
    obtain ⟨v, h1, h2⟩ := r.get (List.getElem?_eq_getElem hi)
    exact ⟨vs, v, seen_sqT h e, h1⟩
  stop := fun ν' μ' H' e => ⟨vs, seen_sqT h e, by rw [r.len]; exact Nat.le_refl _⟩
  yld := fun i ν' μ' H' st x H2 e s hi ⟨e2, q⟩ => by
    subst e2
    obtain ⟨d, h1, h2⟩ := r.get' (q vs (seen_sqT h e))
    exact ⟨d, h1, .refl, s, Rep.mono e.mu e.same d x h2⟩
/-- lo, lo + 1, .. -/
def rngD (lo : Int) (n : Nat) : List D := (List.range n).map fun i => D.int (lo + (i : Nat))
theorem rngD_len {lo : Int} {n : Nat} : (rngD lo n).length = n := by unfold rngD; rw [List.length_map, List.length_range]
theorem rngD_get {lo : Int} {n i : Nat} (h : i < n) : (rngD lo n)[i]? = some (D.int (lo + (i : Nat))) := by
  unfold rngD
  rw [List.getElem?_map, List.getElem?_range h]
  rfl
theorem gives_rng {lo : Int} {n : Nat} : Gives K ν μ H (Itr lo n) (rngD lo n) where
  go := fun i _ _ _ _ hi => by rw [rngD_len] at hi; exact hi
  stop := fun _ _ _ _ => by rw [rngD_len]; exact Nat.le_refl _
  yld := fun i ν' μ' H' st x H2 e s hi ⟨e2, q⟩ => by
    subst e2; subst q
    rw [rngD_len] at hi
    exact ⟨_, rngD_get hi, .refl, s, to_int⟩
end
section
variable {X : Cx} {E : XK} {tg : Expr}
/-- over a list or tuple that stays as it is -/
def seqD (d : D) : M (List D) := fun st => match d with
  | .lst xs => some (.ok xs st)
  | .fl xs => some (.ok xs st)
  | .tup xs => some (.ok xs st)
  | _ => none
def lstD (d : D) : M (List D) := fun st => match d with
  | .lst xs => some (.ok xs st)
  | .fl xs => some (.ok xs st)
  | _ => none
def tupD (d : D) : M (List D) := fun st => match d with
  | .tup xs => some (.ok xs st)
  | _ => none
def iLst (f : EF) : ItF := fun δ => (f δ).bind lstD
def iTp (f : EF) : ItF := fun δ => (f δ).bind tupD
theorem di_list {e : Expr} {f : EF} (h : DE X E e f) : DI X E tg e (iLst f) := pi_imp (pi_list h) fun σ H Q ⟨μ, ν, δ, st, S, o⟩ => by
  refine ⟨μ, ν, δ, st, S, o.fst.imp fun d st1 μ1 H1 e1 s1 o1 v hv => ?_⟩
  unfold lstD at o1
  split at o1
  · unfold Rep at hv
    obtain ⟨a, vs, rfl, h2, h3, h4⟩ := hv
    exact ⟨a, rfl, ⟨vs, .inl (.inl (hid_some h2).1)⟩, o1.now s1 _ (gives_list (.inl (.inl h2)) h4)⟩
  · unfold Rep at hv
    obtain ⟨a, vs, rfl, h2, h3, h4⟩ := hv
    exact ⟨a, rfl, ⟨vs, hid_sub.seq h2⟩, o1.now s1 _ (gives_list h2 h4)⟩
  · exact o1.elim
theorem di_tup {e : Expr} {f : EF} (h : DE X E e f) : DI X E tg e (iTp f) := pi_imp (pi_tup h) fun σ H Q ⟨μ, ν, δ, st, S, o⟩ => by
  refine ⟨μ, ν, δ, st, S, o.fst.imp fun d st1 μ1 H1 e1 s1 o1 v hv => ?_⟩
  unfold tupD at o1
  split at o1
  · unfold Rep at hv
    obtain ⟨a, vs, rfl, h2, h3, h4⟩ := hv
    exact ⟨a, rfl, ⟨vs, sqT_same hid_sub h2⟩, o1.now s1 _ (gives_tup h2 h4)⟩
  · exact o1.elim
def rng1 (ds : List D) : M (List D) := fun st => match ds with
  | [.int n] => if -(2 ^ 62) ≤ n ∧ n < 2 ^ 62 then some (.ok (rngD 0 n.toNat) st) else none
  | _ => none
def rng2 (ds : List D) : M (List D) := fun st => match ds with
  | [.int a, .int b] => if (-(2 ^ 62) ≤ a ∧ a < 2 ^ 62 ∧ -(2 ^ 62) ≤ b ∧ b < 2 ^ 62) ∧ (b - a).toNat ≤ 2 ^ 62 then some (.ok (rngD a (b - a).toNat) st) else none
  | _ => none
def iR1 (f : En → M (List D)) : ItF := fun δ => (f δ).bind rng1
def iR2 (f : En → M (List D)) : ItF := fun δ => (f δ).bind rng2
theorem di_range1 {a : Expr} {f : En → M (List D)} {p pos : Pos} (hg : Gl X "range") (hm : X.mg "range" = none) (ha : DA X E [a] f) (hs : starEach [a] X.env = [(false, eval a X.env)] := by rfl) : DI X E tg (.Call (.Name "range" p) [a] [] pos) (iR1 f) :=
  pi_imp (pi_range1 hg hm ha hs) fun σ H Q ⟨μ, ν, δ, st, S, o⟩ => by
    refine ⟨μ, ν, δ, st, S, o.fst.imp fun d st1 μ1 H1 e1 s1 o1 vs hv => ?_⟩
    unfold rng1 at o1
    split at o1
    · rename_i n
      split at o1
      · rename_i hn
        unfold Reps at hv
        obtain ⟨v, r, rfl, hv1, hr⟩ := hv
        unfold Reps at hr
        subst hr
        rw [rep_int hv1]
        exact ⟨n, rfl, hn.1, hn.2, o1.now s1 _ gives_rng⟩
      · exact o1.elim
    · exact o1.elim
theorem di_range2 {a b : Expr} {f : En → M (List D)} {p pos : Pos} (hg : Gl X "range") (hm : X.mg "range" = none) (ha : DA X E [a, b] f) (hs : starEach [a, b] X.env = [(false, eval a X.env), (false, eval b X.env)] := by rfl) (hs2 : starEach [b] X.env = [(false, eval b X.env)] := by rfl) : DI X E tg (.Call (.Name "range" p) [a, b] [] pos) (iR2 f) :=
  pi_imp (pi_range2 hg hm ha hs hs2) fun σ H Q ⟨μ, ν, δ, st, S, o⟩ => by
    refine ⟨μ, ν, δ, st, S, o.fst.imp fun d st1 μ1 H1 e1 s1 o1 vs hv => ?_⟩
    unfold rng2 at o1
    split at o1
    · rename_i a b
      split at o1
      · rename_i hn
        unfold Reps at hv
        obtain ⟨v, r, rfl, hv1, hr⟩ := hv
        unfold Reps at hr
        obtain ⟨w, r2, rfl, hw1, hr2⟩ := hr
        unfold Reps at hr2
        subst hr2
        rw [rep_int hv1, rep_int hw1]
        exact ⟨a, b, rfl, hn.1, o1.now s1 _ gives_rng⟩
      · exact o1.elim
    · exact o1.elim
/-- enumerate(xs): new pairs -/
def enumD (xs : List D) : List D := xs.zipIdx.map fun p => D.tup [.int (p.2 : Nat), p.1]
end

/-! ### for -/
def forM (g : TgF) (body : SF) : List D → En → M Fl
  | [], δ => M.pure (.nx δ)
  | x :: xs, δ => (g x δ).bind fun δ1 => (body δ1).bind fun fl => match fl with
    | .nx δ' => forM g body xs δ'
    | .ct δ' => forM g body xs δ'
    | .bk δ' => M.pure (.nx δ')
    | .rt d => M.pure (.rt d)
def sFor (it : ItF) (g : TgF) (body : SF) : SF := fun δ => (it δ).bind fun xs => forM g body xs δ
section
variable {X : Cx} {E : XK} {pos : Pos}
theorem tDS_for {K : PySem.W.Frag} {it : ItF} {g : TgF} {body : SF} {T : Ends} {σ : L2.St} {H : Hp} (h : tDS K E (sFor it g body) T σ H) : tFor (tDI K E it) (tDG K E g) (tDS K E body) T σ H := by
  obtain ⟨μ, ν, δ, st, S, o⟩ := h
  refine ⟨μ, ν, δ, st, S, o.fst.imp fun xs st1 μ1 H1 e1 s1 o1 J G => ?_⟩
  refine ⟨fun i m σ' H' => ∃ μ' δ' st', Sit K μ' ν δ' st' σ' H' ∧ Ext ν μ1 H1 μ' H' ∧ m = xs.length - i ∧ i ≤ xs.length ∧ Out K ν E μ' H' (forM g body (xs.drop i) δ' st') fun fl st2 μ2 H2 => endsD K ν T fl μ2 H2,
    ⟨_, μ1, δ, st1, S.ext e1 s1, .refl, rfl, Nat.zero_le _, o1⟩, fun i m σ2 H2 hW => ?_⟩
  obtain ⟨μ2, δ2, st2, S2, e2, rfl, hi, o2⟩ := hW
  by_cases hlt : i < xs.length
  · refine .inr ⟨G.go i ν μ2 H2 e2.seen hlt, _, fun σ' H' q => ⟨xs.length - (i + 1), by omega, q⟩, fun x H3 hy => ?_⟩
    obtain ⟨d, hd, e3, s3, hx⟩ := G.yld i ν μ2 H2 st2 x H3 e2.seen S2.sto hlt hy
    rw [List.drop_eq_getElem_cons hlt] at o2
    obtain rfl : xs[i] = d := by rw [List.getElem?_eq_getElem hlt] at hd; exact Option.some.inj hd
    refine ⟨μ2, ν, _, δ2, st2, S2.ext e3 s3, hx, (Out.fst (m := g xs[i] δ2) (Out.ext o2 e3)).imp fun δ3 st4 μ4 H4 e4 s4 o4 σ4 hσ4 => ?_⟩
    refine ⟨μ4, ν, δ3, st4, ⟨s4, hσ4⟩, o4.fst.imp fun fl st5 μ5 H5 e5 s5 o5 => ?_⟩
    have e25 := ((e2.trans e3).trans e4).trans e5
    cases fl with
    | nx δ5 => exact fun σ5 hσ5 => ⟨μ5, δ5, st5, ⟨s5, hσ5⟩, e25, rfl, hlt, o5⟩
    | ct δ5 => exact fun σ5 hσ5 => ⟨μ5, δ5, st5, ⟨s5, hσ5⟩, e25, rfl, hlt, o5⟩
    | bk δ5 => exact fun σ5 hσ5 => o5.ret s5 σ5 hσ5
    | rt d => exact o5.ret s5
  · have hz : i = xs.length := by omega
    subst hz
    rw [List.drop_length] at o2
    exact .inl ⟨G.stop ν μ2 H2 e2.seen, o2.ret S2.sto σ2 S2.env⟩
theorem ds_for {tg e : Expr} {body : List Stmt} {it : ItF} {g : TgF} {f : SF} (hp : PassesOwn (model X.prog X.w) X.A X.env X.xe) (hc : X.calm = true) (hi : DI X E tg e it) (hg : DG X E tg g) (hb : DSs X E body f)
    (hs : ∀ x, foldedSetIterable e X.env x = pure x := by intro _; rfl) : DSt X E (.For tg e body [] pos) (sFor it g f) := ps_imp (ps_for hp hc hi hg hb hs) fun T σ H h => tDS_for h
end

/-! ### comprehensions -/
theorem wipe_at {σ : L2.St} {vs : List Nat} {j : Nat} : (L2.wipe σ vs)[j]? = if j ∈ vs then (if j < σ.length then some none else none) else σ[j]? := by
  induction vs with
  | nil => rw [if_neg (by simp)]; rfl
  | cons v vs ih =>
    show ((L2.wipe σ vs).set v none)[j]? = _
    by_cases hv : v = j
    · subst hv
      rw [if_pos (List.mem_cons_self)]
      by_cases hl : v < σ.length
      · rw [List.getElem?_set_self (by rw [L2.wipe_length]; exact hl), if_pos hl]
      · rw [if_neg hl, List.getElem?_eq_none]
        rw [List.length_set, L2.wipe_length]
        omega
    · rw [List.getElem?_set_ne hv, ih]
      by_cases hj : j ∈ vs
      · rw [if_pos hj, if_pos (List.mem_cons_of_mem _ hj)]
      · rw [if_neg hj, if_neg]
        intro z
        rcases List.mem_cons.mp z with z | z
        · exact hv z.symm
        · exact hj z
theorem wipe_set {σ : L2.St} {vs : List Nat} {i : Nat} {o : Option V} (hi : i ∈ vs) : L2.wipe (σ.set i o) vs = L2.wipe σ vs := by
  apply List.ext_getElem?
  intro j
  rw [wipe_at, wipe_at, List.length_set]
  by_cases hj : j ∈ vs
  · rw [if_pos hj, if_pos hj]
  · rw [if_neg hj, if_neg hj, List.getElem?_set_ne]
    intro z; subst z; exact hj hi
theorem wipe_wipe {σ : L2.St} {vs : List Nat} : L2.wipe (L2.wipe σ vs) vs = L2.wipe σ vs := by
  apply List.ext_getElem?
  intro j
  rw [wipe_at, wipe_at, L2.wipe_length]
  by_cases hj : j ∈ vs
  · rw [if_pos hj, if_pos hj]
  · rw [if_neg hj]
/-- a comprehension's target: its names are the block's own -/
structure CG (K : PySem.W.Frag) (vs : List Nat) (t : TG) (g : TgF) : Prop where
  run : ∀ {μ : Mu} {ν : List Addr} {d : D} {δ : En} {st : Sto} {σ : L2.St} {H : Hp} {v : V} {Q : L2.St → Hp → Prop}, Sit K μ ν δ st σ H → Rep K μ (hid μ ν H) d v → L2.wipe σ vs = σ →
    Out K ν E0 μ H (g d δ st) (fun δ' st' μ' H' => ∀ σ', SimE K μ' (hid μ' ν H') δ' σ' → L2.wipe σ' vs = σ → Q σ' H') → t v σ H Q
theorem cg_name {K : PySem.W.Frag} {vs : List Nat} {i : Nat} (hi : i ∈ vs) : CG K vs (gName i) (gN i) := ⟨fun S hv hw o => o.ret S.sto _ (S.env.set hv) (by rw [wipe_set hi, hw])⟩
theorem cg_pair {K : PySem.W.Frag} {vs : List Nat} {i j : Nat} (hi : i ∈ vs) (hj : j ∈ vs) : CG K vs (gTup K 2 (gCons (gName i) (gCons (gName j) gNil))) (gT [gN i, gN j]) := ⟨fun {μ ν d δ st σ H v Q} S hv hw o => by
  unfold gT at o
  split at o
  · rename_i xs hx
    split at o
    · rename_i hl
      obtain ⟨a, ws, rfl, e2, e3, e4⟩ := asT_rep hv hx
      match xs, hl, e4, o with
      | [x, y], hl, e4, o =>
        unfold Reps at e4
        obtain ⟨v1, r1, rfl, hv1, hr1⟩ := e4
        unfold Reps at hr1
        obtain ⟨v2, r2, rfl, hv2, hr2⟩ := hr1
        unfold Reps at hr2
        subst hr2
        refine ⟨a, _, rfl, e2, rfl, v1, _, rfl, v2, _, rfl, rfl, ?_⟩
        refine o.now S.sto _ ((S.env.set hv1).set hv2) ?_
        rw [wipe_set hj, wipe_set hi, hw]
    · exact o.elim
  · exact o.elim⟩
def lcM (g : TgF) (tt : En → M Bool) (el : EF) (δ : En) : List D → M (List D)
  | [] => M.pure []
  | x :: xs => (g x δ).bind fun δ1 => (tt δ1).bind fun b => if b = true then (el δ1).bind fun y => (lcM g tt el δ xs).bind fun r => M.pure (y :: r) else lcM g tt el δ xs
section
variable {X : Cx} {E : XK} {pos : Pos}
def eLcM (it : ItF) (g : TgF) (vs : List Nat) (tt : En → M Bool) (el : EF) : En → M (List D) := fun δ => (it δ).bind fun xs st => if xs.length ≤ sizeLine then noer (lcM g tt el (wipeD δ vs) xs) st else none
def eLc (it : ItF) (g : TgF) (vs : List Nat) (tt : En → M Bool) (el : EF) : EF := fun δ => (eLcM it g vs tt el δ).bind fun r => M.pure (.lst r)
def eLcN (it : ItF) (g : TgF) (vs : List Nat) (tt : En → M Bool) (el : EF) : EF := fun δ => (eLcM it g vs tt el δ).bind fun r st => some (.ok (.obj st.length) (st ++ [.lst r]))
/-- the reading of a comprehension: k what is done with the new list -/
theorem tD_lc {K : PySem.W.Frag} {it : ItF} {g : TgF} {vs : List Nat} {t : TG} {tt : En → M Bool} {el : EF} {fin : List D → M D} {σ : L2.St} {H : Hp} {Q : VK} (hg : CG K vs t g)
    (hfin : ∀ {μ ν H st r ws D} {k : VK}, StoOk K μ ν H st → H D = none → r.length ≤ sizeLine → Reps K μ (hid μ ν H) r ws → Out K ν E μ H (fin r st) (fun d st' μ' H' => ∀ v, Rep K μ' (hid μ' ν H') d v → k v H') → k (.ref D) (upd H D (.lst ws)))
    (h : tD K E (fun δ => (eLcM it g vs tt el δ).bind fin) σ H Q) : tLc (tDI K E it) t (tDb K E0 tt) (tD K E0 el) vs σ H Q := by
  obtain ⟨μ, ν, δ, st, S, o⟩ := h
  have o' : Out K ν E μ H ((it δ).bind (fun xs => M.bind (fun st => if xs.length ≤ sizeLine then noer (lcM g tt el (wipeD δ vs) xs) st else none) fin) st) (fun d st' μ' H' => ∀ v, Rep K μ' (hid μ' ν H') d v → Q v H') := by
    have e : ((it δ).bind (fun xs => M.bind (fun st => if xs.length ≤ sizeLine then noer (lcM g tt el (wipeD δ vs) xs) st else none) fin) st) = ((eLcM it g vs tt el δ).bind fin st) := by
      unfold eLcM M.bind
      dsimp only
      cases it δ st with
      | none => rfl
      | some r => cases r <;> rfl
    rw [e]; exact o
  refine ⟨μ, ν, δ, st, S, o'.fst.imp fun xs st1 μ1 H1 e1 s1 o1 J G Dd hD => ?_⟩
  have S1 := S.ext e1 s1
  have ndν : Dd ∉ ν := (s1.fresh hD).2
  have o2 := o1.fst
  split at o2
  case isFalse => exact o2.elim
  rename_i hxl
  have o2 := o2.noer
  -- the invariant: H without Dd
  refine ⟨fun i m H' => ∃ μ' st' acc ws, StoOk K μ' ν (rem Dd H') st' ∧ Ext ν μ1 H1 μ' (rem Dd H') ∧ H' Dd = some (.lst ws) ∧ Reps K μ' (hid μ' ν (rem Dd H')) acc ws ∧ m = xs.length - i ∧ i ≤ xs.length ∧ acc.length ≤ i ∧
      Out K ν E0 μ' (rem Dd H') (lcM g tt el (wipeD δ vs) (xs.drop i) st') fun r st2 μ2 H2 => Out K ν E μ2 H2 (fin (acc ++ r) st2) fun d st' μ' H' => ∀ v, Rep K μ' (hid μ' ν H') d v → Q v H',
    ⟨_, μ1, st1, [], [], by rw [rem_upd hD]; exact s1, by rw [rem_upd hD]; exact .refl, upd_same, .nil, rfl, Nat.zero_le _, Nat.zero_le _, by rw [rem_upd hD]; exact o2⟩, fun i m H2 hW => ?_⟩
  obtain ⟨μ2, st2, acc, ws, s2, e2, hd, hacc, rfl, hi, hal, o3⟩ := hW
  have U2 := sto_unrem s2 hd ndν
  have E2 : MuExt μ1 μ2 := e2.mu
  have X2 : Same (hid μ1 ν H1) (hid μ2 (Dd :: ν) H2) := by rw [hid_rem]; exact e2.same
  have sn : Seen ν μ1 H1 (Dd :: ν) μ2 H2 := ⟨E2, X2⟩
  by_cases hlt : i < xs.length
  · refine .inr ⟨G.go i _ μ2 H2 sn hlt, _, fun H' q => ⟨xs.length - (i + 1), by omega, q⟩, fun x H4 hy => ?_⟩
    obtain ⟨d, hd1, e4, s4, hx⟩ := G.yld i _ μ2 H2 st2 x H4 sn U2 hlt hy
    rw [List.drop_eq_getElem_cons hlt] at o3
    obtain rfl : xs[i] = d := by rw [List.getElem?_eq_getElem hlt] at hd1; exact Option.some.inj hd1
    have o4 := (Out.ext o3 (ext_rem e4)).fst
    have S4 : Sit K μ2 (Dd :: ν) (wipeD δ vs) st2 (L2.wipe σ vs) H4 := ⟨s4, by
      have := (S1.env.mono E2 X2).ext e4
      exact SimE.wipe this vs⟩
    have hd4 : H4 Dd = some (.lst ws) := by rw [e4.out Dd (List.mem_cons_self)]; exact hd
    have hacc4 : Reps K μ2 (hid μ2 (Dd :: ν) H4) acc ws := by
      have q := hacc
      rw [← hid_rem] at q
      exact q.ext e4
    refine hg.run S4 hx wipe_wipe ((o4.beside (a := Dd) ndν).imp fun δ5 st5 μ5 H5 e5 s5 o5 σ5 hσ5 hw5 => ⟨hw5, ?_⟩)
    refine ⟨μ5, Dd :: ν, δ5, st5, ⟨s5, hσ5⟩, (o5.1.fst.beside (a := Dd) ndν).imp fun b st6 μ6 H6 e6 s6 o6 => ?_⟩
    have e2' : Ext ν μ1 H1 μ6 (rem Dd H6) := ((e2.trans (ext_rem e4)).trans (ext_rem e5)).trans (ext_rem e6)
    have hd6 : H6 Dd = some (.lst ws) := by rw [e6.out Dd (List.mem_cons_self), e5.out Dd (List.mem_cons_self)]; exact hd4
    have hacc6 := (hacc4.ext e5).ext e6
    have o6 := o6.1
    cases b with
    | false =>
      rw [if_neg (by decide)] at o6
      refine (if_neg (by decide)).mpr ?_
      exact ⟨μ6, st6, acc, ws, sto_rem s6 ndν, e2', hd6, by rw [← hid_rem]; exact hacc6, rfl, hlt, Nat.le_succ_of_le hal, o6⟩
    | true =>
      rw [if_pos rfl] at o6
      refine (if_pos rfl).mpr ?_
      refine ⟨μ6, Dd :: ν, δ5, st6, ⟨s6, hσ5.ext e6⟩, (o6.fst.beside (a := Dd) ndν).imp fun y st7 μ7 H7 e7 s7 o7 v hv => ?_⟩
      have hd7 : H7 Dd = some (.lst ws) := by rw [e7.out Dd (List.mem_cons_self)]; exact hd6
      have hacc7 := hacc6.ext e7
      have o7 := o7.1.fst
      refine ⟨ws, hd7, by rw [← hacc7.len]; omega, μ7, st7, acc ++ [y], ws ++ [v], ?_, ?_, upd_same, ?_, rfl, hlt, by rw [List.length_append, List.length_singleton]; omega, ?_⟩
      · rw [rem_upd']; exact sto_rem s7 ndν
      · rw [rem_upd']; exact e2'.trans (ext_rem e7)
      · rw [rem_upd', ← hid_rem]; exact hacc7.append (.one hv)
      · rw [rem_upd']
        refine o7.imp fun r st8 μ8 H8 e8 s8 o8 => ?_
        have q := o8.ret s8
        rw [List.append_assoc]
        exact q
  · have hz : i = xs.length := by omega
    subst hz
    rw [List.drop_length] at o3
    refine .inl ⟨G.stop _ μ2 H2 sn, ?_⟩
    have o4 := o3.ret s2
    rw [List.append_nil] at o4
    have hrem : rem Dd H2 Dd = none := rem_same
    have q := hfin s2 hrem (by omega) hacc o4
    rw [upd_rem hd] at q
    exact q
theorem Out.go {K : PySem.W.Frag} {μ μ' : Mu} {ν : List Addr} {H H' : Hp} {E : XK} {α : Type} {o : Option (R α)} {a : α} {st : Sto} {k : α → Sto → Mu → Hp → Prop} (h : Out K ν E μ H o k) (e : o = some (.ok a st)) (x : Ext ν μ H μ' H') (s : StoOk K μ' ν H' st) : k a st μ' H' := by
  subst e
  exact h μ' H' x s
theorem tD_eLc {K : PySem.W.Frag} {it : ItF} {g : TgF} {vs : List Nat} {t : TG} {tt : En → M Bool} {el : EF} {σ : L2.St} {H : Hp} {Q : VK} (hg : CG K vs t g) (h : tD K E (eLc it g vs tt el) σ H Q) : tLc (tDI K E it) t (tDb K E0 tt) (tD K E0 el) vs σ H Q :=
  tD_lc hg (fun s hD hl hr o => (o.go rfl (s.ext_new hD) (s.new hD)) _ (rep_lst s hD hl hr)) h
theorem tD_eLcN {K : PySem.W.Frag} {it : ItF} {g : TgF} {vs : List Nat} {t : TG} {tt : En → M Bool} {el : EF} {σ : L2.St} {H : Hp} {Q : VK} (hg : CG K vs t g) (h : tD K E (eLcN it g vs tt el) σ H Q) : tLc (tDI K E it) t (tDb K E0 tt) (tD K E0 el) vs σ H Q :=
  tD_lc hg (fun s hD hl hr o => let ⟨a, b, c⟩ := sto_lst s hD hl hr; (o.go rfl b a) _ c) h
def eYes : En → M Bool := fun _ => M.pure true
abbrev DTs (X : Cx) (ifs : List Expr) (f : En → M Bool) : Prop := PTs X ifs (tDb X.K E0 f)
theorem pts_imp {e : List Expr} {t t' : TT} (h : PTs X e t) (i : ∀ σ H Q, t' σ H Q → t σ H Q) : PTs X e t' := ⟨fun pins s σ H Q I q => h.run pins s σ H Q I (i _ _ _ q)⟩
theorem dts_nil : DTs X [] eYes := pts_imp pts_nil fun σ H Q ⟨μ, ν, δ, st, S, o⟩ => o.ret S.sto
theorem dts_one {c : Expr} {f : En → M Bool} (h : DT X E0 c f) : DTs X [c] f := pts_one h
section
variable {elt tg iter : Expr} {ifs : List Expr} {scope : Scope} {own : List (Str × Nat)} {it : ItF} {g : TgF} {t : TG} {tt : En → M Bool} {el : EF}
theorem de_lc (hc : X.calm = true) (hN : X.N.Nodup) (hi : DI X E tg iter it) (ok : BlkOk X.N X.env.scope scope own) (hcg : CG X.K (own.map (·.2)) t g)
    (hg : ∀ (s : Shared) (H : Hp) (C : Addr) (cl : List (Str × Addr)) (fp : List Addr), PG (X.blk s H scope (compEnvC scope cl C X.env) fp) tg t) (ht : ∀ (s : Shared) (H : Hp) (C : Addr) (cl : List (Str × Addr)) (fp : List Addr), DTs (X.blk s H scope (compEnvC scope cl C X.env) fp) ifs tt)
    (he : ∀ (s : Shared) (H : Hp) (C : Addr) (cl : List (Str × Addr)) (fp : List Addr), DE (X.blk s H scope (compEnvC scope cl C X.env) fp) E0 elt el) (hs : ∀ x, foldedSetIterable iter X.env x = pure x := by intro _; rfl) :
    DE X E (.ListComp elt [⟨tg, iter, ifs, 0⟩] scope pos) (eLc it g (own.map (·.2)) tt el) := pe_imp (pe_lc hc hN hi ok hg ht he hs) fun σ H Q h => tD_eLc hcg h
theorem de_lcN (hc : X.calm = true) (hN : X.N.Nodup) (hi : DI X E tg iter it) (ok : BlkOk X.N X.env.scope scope own) (hcg : CG X.K (own.map (·.2)) t g)
    (hg : ∀ (s : Shared) (H : Hp) (C : Addr) (cl : List (Str × Addr)) (fp : List Addr), PG (X.blk s H scope (compEnvC scope cl C X.env) fp) tg t) (ht : ∀ (s : Shared) (H : Hp) (C : Addr) (cl : List (Str × Addr)) (fp : List Addr), DTs (X.blk s H scope (compEnvC scope cl C X.env) fp) ifs tt)
    (he : ∀ (s : Shared) (H : Hp) (C : Addr) (cl : List (Str × Addr)) (fp : List Addr), DE (X.blk s H scope (compEnvC scope cl C X.env) fp) E0 elt el) (hs : ∀ x, foldedSetIterable iter X.env x = pure x := by intro _; rfl) :
    DE X E (.ListComp elt [⟨tg, iter, ifs, 0⟩] scope pos) (eLcN it g (own.map (·.2)) tt el) := pe_imp (pe_lc hc hN hi ok hg ht he hs) fun σ H Q h => tD_eLcN hcg h
/-- y = [..] -/
theorem tAsg_lc {K : PySem.W.Frag} {f : EF} {te : TE} {i : Nat} {T : Ends} {σ : L2.St} {H : Hp} (hte : ∀ σ H Q, tD K E f σ H Q → te σ H Q) (h : tDS K E (sAsg f (gN i)) T σ H) : tAsg te (gName i) T σ H := by
  obtain ⟨μ, ν, δ, st, S, o⟩ := h
  refine hte _ _ _ ⟨μ, ν, δ, st, S, o.fst.imp fun d st1 μ1 H1 e1 s1 o1 v hv => ?_⟩
  exact (o1.fst.ret s1).ret s1 _ ((S.env.ext e1).set hv)
theorem ds_setLc {i : Nat} {s : Stmt} {te : TE} {f : EF} (h : PS X s (tAsg te (gName i))) (hte : ∀ σ H Q, tD X.K E f σ H Q → te σ H Q) : DSt X E s (sAsg f (gN i)) := ps_imp h fun T σ H q => tAsg_lc hte q
end
end
end DL
end
section
namespace DL
open PySem PySem.Spec PyProof.Rows L2

/-! ### leaving a def: what it made in the store becomes plain data -/
mutual
/-- no place of the store at n or above -/
def belowD (n : Nat) : D → Bool
  | .non => true
  | .bl _ => true
  | .int _ => true
  | .str _ => true
  | .lst xs => belowDs n xs
  | .fl xs => belowDs n xs
  | .tup xs => belowDs n xs
  | .ins _ fs => belowFs n fs
  | .exc _ _ => false
  | .dct kvs => belowKs n kvs
  | .obj i => decide (i < n)
  | .fn _ => true
def belowDs (n : Nat) : List D → Bool
  | [] => true
  | x :: xs => belowD n x && belowDs n xs
def belowFs (n : Nat) : List (Str × D) → Bool
  | [] => true
  | p :: xs => belowD n p.2 && belowFs n xs
def belowKs (n : Nat) : List (Key × D) → Bool
  | [] => true
  | p :: xs => belowD n p.2 && belowKs n xs
end
def frzFs (f : D → Option D) : List (Str × D) → Option (List (Str × D))
  | [] => some []
  | p :: xs => match f p.2 with
    | some y => match frzFs f xs with
      | some ys => some ((p.1, y) :: ys)
      | none => none
    | none => none
def frz (n : Nat) (st : Sto) : Nat → D → Option D
  | 0, d => if belowD n d = true then some d else none
  | k + 1, d => if belowD n d = true then some d else match d with
    | .lst xs => match allM (frz n st k) xs with | some ys => some (.lst ys) | none => none
    | .tup xs => match allM (frz n st k) xs with | some ys => some (.tup ys) | none => none
    | .obj i => match st[i]? with
      | some (.lst xs) => match allM (frz n st k) xs with | some ys => some (.lst ys) | none => none
      | some (.ins C fs) => match frzFs (frz n st k) fs with | some ys => some (.ins C ys) | none => none
      | _ => none
    | _ => none
theorem frz_below {n k : Nat} {st : Sto} {d : D} (h : belowD n d = true) : frz n st k d = some d := by
  cases k <;> (unfold frz; rw [if_pos h])
def belowC (n : Nat) : Cell → Bool
  | .dead => true
  | .lst xs => belowDs n xs
  | .ins _ fs => belowFs n fs
/-- the outer places are as they were, or hold what has no inner place -/
def TrOk (n : Nat) (st st1 : Sto) : Prop := n ≤ st1.length ∧ ∀ (i : Nat) (c : Cell), i < n → st1[i]? = some c → st[i]? = some c ∨ belowC n c = true
section
variable {K : PySem.W.Frag} {μ μ' : Mu} {ν : List Addr} {H H' : Hp} {st st' : Sto} {E : XK} {n : Nat}
mutual
theorem below_rep {G : Hp} (hn : n ≤ μ.length) : ∀ (d : D) (v : V), belowD n d = true → Rep K μ G d v → Rep K (μ.take n) G d v
  | .non, v, _, h => h
  | .bl _, v, _, h => h
  | .int _, v, _, h => h
  | .str _, v, _, h => h
  | .lst xs, v, b, h => by
    unfold Rep at h ⊢
    unfold belowD at b
    obtain ⟨a, vs, e1, e2, e3, e4⟩ := h
    exact ⟨a, vs, e1, e2, e3, below_reps hn xs vs b e4⟩
  | .fl xs, v, b, h => by
    unfold Rep at h ⊢
    unfold belowD at b
    obtain ⟨a, vs, e1, e2, e3, e4⟩ := h
    exact ⟨a, vs, e1, e2, e3, below_reps hn xs vs b e4⟩
  | .tup xs, v, b, h => by
    unfold Rep at h ⊢
    unfold belowD at b
    obtain ⟨a, vs, e1, e2, e3, e4⟩ := h
    exact ⟨a, vs, e1, e2, e3, below_reps hn xs vs b e4⟩
  | .ins C fs, v, b, h => by
    unfold Rep at h ⊢
    unfold belowD at b
    obtain ⟨a, dx, gs, e1, e2, e3⟩ := h
    exact ⟨a, dx, gs, e1, e2, below_freps hn fs gs b e3⟩
  | .exc _ _, v, b, h => h
  | .fn _, v, b, h => h
  | .dct kvs, v, b, h => by
    unfold Rep at h ⊢
    unfold belowD at b
    obtain ⟨a, ws, e1, e2, e3⟩ := h
    exact ⟨a, ws, e1, e2, below_kreps hn kvs ws b e3⟩
  | .obj i, v, b, h => by
    unfold Rep at h ⊢
    unfold belowD at b
    have hi := of_decide_eq_true b
    refine ⟨by rw [List.length_take]; omega, fun a e => h.2 a ?_⟩
    rw [List.getElem?_take_of_lt hi] at e
    exact e
theorem below_reps {G : Hp} (hn : n ≤ μ.length) : ∀ (ds : List D) (vs : List V), belowDs n ds = true → Reps K μ G ds vs → Reps K (μ.take n) G ds vs
  | [], vs, _, h => h
  | d :: ds, vs, b, h => by
    unfold Reps at h ⊢
    unfold belowDs at b
    rw [Bool.and_eq_true] at b
    obtain ⟨v, r, e1, e2, e3⟩ := h
    exact ⟨v, r, e1, below_rep hn d v b.1 e2, below_reps hn ds r b.2 e3⟩
theorem below_freps {G : Hp} (hn : n ≤ μ.length) : ∀ (ds : List (Str × D)) (vs : List (Str × V)), belowFs n ds = true → FReps K μ G ds vs → FReps K (μ.take n) G ds vs
  | [], vs, _, h => h
  | p :: ds, vs, b, h => by
    unfold FReps at h ⊢
    unfold belowFs at b
    rw [Bool.and_eq_true] at b
    obtain ⟨v, r, e1, e2, e3⟩ := h
    exact ⟨v, r, e1, below_rep hn p.2 v b.1 e2, below_freps hn ds r b.2 e3⟩
theorem below_kreps {G : Hp} (hn : n ≤ μ.length) : ∀ (ds : List (Key × D)) (vs : List (Key × V)), belowKs n ds = true → KReps K μ G ds vs → KReps K (μ.take n) G ds vs
  | [], vs, _, h => h
  | p :: ds, vs, b, h => by
    unfold KReps at h ⊢
    unfold belowKs at b
    rw [Bool.and_eq_true] at b
    obtain ⟨v, r, e1, e2, e3⟩ := h
    exact ⟨v, r, e1, below_rep hn p.2 v b.1 e2, below_kreps hn ds r b.2 e3⟩
end
mutual
theorem rep_below {G : Hp} : ∀ (d : D) (v : V), Rep K μ G d v → belowD μ.length d = true
  | .non, v, _ => by unfold belowD; rfl
  | .bl _, v, _ => by unfold belowD; rfl
  | .int _, v, _ => by unfold belowD; rfl
  | .str _, v, _ => by unfold belowD; rfl
  | .lst xs, v, h => by
    unfold Rep at h
    unfold belowD
    obtain ⟨a, vs, e1, e2, e3, e4⟩ := h
    exact reps_below xs vs e4
  | .fl xs, v, h => by
    unfold Rep at h
    unfold belowD
    obtain ⟨a, vs, e1, e2, e3, e4⟩ := h
    exact reps_below xs vs e4
  | .tup xs, v, h => by
    unfold Rep at h
    unfold belowD
    obtain ⟨a, vs, e1, e2, e3, e4⟩ := h
    exact reps_below xs vs e4
  | .ins C fs, v, h => by
    unfold Rep at h
    unfold belowD
    obtain ⟨a, dx, gs, e1, e2, e3⟩ := h
    exact freps_below fs gs e3
  | .exc _ _, v, h => by unfold Rep at h; exact h.elim
  | .fn _, v, h => by unfold belowD; rfl
  | .dct kvs, v, h => by
    unfold Rep at h
    unfold belowD
    obtain ⟨a, ws, e1, e2, e3⟩ := h
    exact kreps_below kvs ws e3
  | .obj i, v, h => by
    unfold Rep at h
    unfold belowD
    exact decide_eq_true h.1
theorem reps_below {G : Hp} : ∀ (ds : List D) (vs : List V), Reps K μ G ds vs → belowDs μ.length ds = true
  | [], vs, _ => by unfold belowDs; rfl
  | d :: ds, vs, h => by
    unfold Reps at h
    unfold belowDs
    obtain ⟨v, r, e1, e2, e3⟩ := h
    rw [rep_below d v e2, reps_below ds r e3]; rfl
theorem freps_below {G : Hp} : ∀ (ds : List (Str × D)) (vs : List (Str × V)), FReps K μ G ds vs → belowFs μ.length ds = true
  | [], vs, _ => by unfold belowFs; rfl
  | p :: ds, vs, h => by
    unfold FReps at h
    unfold belowFs
    obtain ⟨v, r, e1, e2, e3⟩ := h
    rw [rep_below p.2 v e2, freps_below ds r e3]; rfl
theorem kreps_below {G : Hp} : ∀ (ds : List (Key × D)) (vs : List (Key × V)), KReps K μ G ds vs → belowKs μ.length ds = true
  | [], vs, _ => by unfold belowKs; rfl
  | p :: ds, vs, h => by
    unfold KReps at h
    unfold belowKs
    obtain ⟨v, r, e1, e2, e3⟩ := h
    rw [rep_below p.2 v e2, kreps_below ds r e3]; rfl
end
/-- places are let go: more is seen -/
theorem hid_take : Same (hid μ ν H) (hid (μ.take n) ν H) := fun a o h => by
  obtain ⟨h1, h2, h3⟩ := hid_some h
  rw [hid_of (fun z => h2 (List.mem_of_mem_take z)) h3]
  exact h1
theorem mu_take (hn : n ≤ μ.length) (m : MuExt μ' μ) (hl : μ'.length = n) : MuExt μ' (μ.take n) :=
  ⟨by rw [List.length_take, hl]; omega, fun i a hi e => m.at_ i a hi (by rw [List.getElem?_take_of_lt (by omega)] at e; exact e)⟩
theorem take_same {G G' : Hp} (e : Same G G') {d : D} {v : V} (h : Rep K μ G d v) : Rep K μ G' d v := Rep.mono .refl e d v h
theorem frz_all {k : Nat} (ih : ∀ (d d' : D) (v : V), frz n st k d = some d' → Rep K μ (hid μ ν H) d v → Rep K (μ.take n) (hid (μ.take n) ν H) d' v) : ∀ (xs ys : List D) (vs : List V), allM (frz n st k) xs = some ys → Reps K μ (hid μ ν H) xs vs →
    ys.length = xs.length ∧ Reps K (μ.take n) (hid (μ.take n) ν H) ys vs
  | [], ys, vs, h, r => by
    cases h
    unfold Reps at r
    subst r
    exact ⟨rfl, .nil⟩
  | x :: xs, ys, vs, h, r => by
    obtain ⟨y, ys', rfl, h1, h2⟩ := allM_cons h
    unfold Reps at r
    obtain ⟨v, r', rfl, r1, r2⟩ := r
    obtain ⟨l, q⟩ := frz_all ih xs ys' r' h2 r2
    exact ⟨by rw [List.length_cons, List.length_cons, l], .cons (ih x y v h1 r1) q⟩
theorem frz_fs {k : Nat} (ih : ∀ (d d' : D) (v : V), frz n st k d = some d' → Rep K μ (hid μ ν H) d v → Rep K (μ.take n) (hid (μ.take n) ν H) d' v) : ∀ (xs ys : List (Str × D)) (vs : List (Str × V)), frzFs (frz n st k) xs = some ys → FReps K μ (hid μ ν H) xs vs →
    FReps K (μ.take n) (hid (μ.take n) ν H) ys vs
  | [], ys, vs, h, r => by
    cases h
    unfold FReps at r ⊢
    exact r
  | x :: xs, ys, vs, h, r => by
    unfold frzFs at h
    split at h
    · rename_i y hy
      split at h
      · rename_i ys' hys
        cases h
        unfold FReps at r ⊢
        obtain ⟨v, r', rfl, r1, r2⟩ := r
        exact ⟨v, r', rfl, ih _ _ v hy r1, frz_fs ih xs ys' r' hys r2⟩
      · cases h
    · cases h
theorem frz_rep (S : StoOk K μ ν H st) (hn : n ≤ μ.length) : ∀ (k : Nat) (d d' : D) (v : V), frz n st k d = some d' → Rep K μ (hid μ ν H) d v → Rep K (μ.take n) (hid (μ.take n) ν H) d' v := by
  have base : ∀ (d : D) (v : V), belowD n d = true → Rep K μ (hid μ ν H) d v → Rep K (μ.take n) (hid (μ.take n) ν H) d v := fun d v b r => take_same hid_take (below_rep hn d v b r)
  have notin : ∀ i a, n ≤ i → μ[i]? = some (some a) → some a ∉ μ.take n ∧ a ∉ ν := fun i a hi e => by
    refine ⟨fun z => ?_, fun z => (S.out a z).2 (mem_of_get e)⟩
    obtain ⟨j, hj⟩ := List.mem_iff_getElem?.mp z
    have hjn : j < n := by
      have := (List.getElem?_eq_some_iff.mp hj).1
      rw [List.length_take] at this; omega
    rw [List.getElem?_take_of_lt hjn] at hj
    have := S.inj i j a e hj
    omega
  intro k
  induction k with
  | zero =>
    intro d d' v h r
    unfold frz at h
    split at h
    · cases h; exact base d v (by assumption) r
    · cases h
  | succ k ih =>
    intro d d' v h r
    unfold frz at h
    split at h
    · cases h; exact base d v (by assumption) r
    · rename_i nb
      split at h
      · split at h
        · rename_i ys hys
          cases h
          unfold Rep at r ⊢
          obtain ⟨a, vs, e1, e2, e3, e4⟩ := r
          obtain ⟨l, q⟩ := frz_all ih _ ys vs hys e4
          exact ⟨a, vs, e1, hid_take _ _ e2, by rw [l]; exact e3, q⟩
        · cases h
      · split at h
        · rename_i ys hys
          cases h
          unfold Rep at r ⊢
          obtain ⟨a, vs, e1, e2, e3, e4⟩ := r
          obtain ⟨l, q⟩ := frz_all ih _ ys vs hys e4
          exact ⟨a, vs, e1, sqT_same hid_take e2, by rw [l]; exact e3, q⟩
        · cases h
      · rename_i i
        have hin : n ≤ i := by
          unfold belowD at nb
          simpa using nb
        split at h
        · rename_i xs hc
          split at h
          · rename_i ys hys
            cases h
            obtain ⟨⟨a, vs, h1, h2, h3, h4⟩, hv⟩ := S.obj r hc
            obtain ⟨l, q⟩ := frz_all ih _ ys vs hys h4
            unfold Rep
            obtain ⟨m1, m2⟩ := notin i a hin h1
            exact ⟨a, vs, hv a h1, by rw [hid_of m1 m2]; exact h2, by rw [l]; exact h3, q⟩
          · cases h
        · rename_i C fs hc
          split at h
          · rename_i ys hys
            cases h
            obtain ⟨⟨a, dx, gs, h1, h2, h3⟩, hv⟩ := S.obj r hc
            unfold Rep
            obtain ⟨m1, m2⟩ := notin i a hin h1
            exact ⟨a, dx, gs, hv a h1, by rw [hid_of m1 m2]; exact h2, frz_fs ih _ ys gs hys h3⟩
          · cases h
        · cases h
      · cases h
theorem ext_take (e : Ext ν μ H μ' H') (hl : μ.length = n) : Ext ν μ H (μ'.take n) H' := by
  have hn : n ≤ μ'.length := by have := e.mu.len; omega
  exact ⟨mu_take hn e.mu hl, e.same.trans hid_take, e.out⟩
theorem sto_take (S0 : StoOk K μ ν H st) (e : Ext ν μ H μ' H') (S : StoOk K μ' ν H' st') (hl : st.length = n) (t : TrOk n st st') : StoOk K (μ'.take n) ν H' (st'.take n) := by
  have hn : n ≤ μ'.length := by rw [S.len]; exact t.1
  have hl' : μ.length = n := by rw [S0.len]; exact hl
  refine ⟨by rw [List.length_take, List.length_take, S.len], fun i j a h1 h2 => ?_, fun a ha => S.live a (List.mem_of_mem_take ha), fun a ha => ⟨(S.out a ha).1, fun z => (S.out a ha).2 (List.mem_of_mem_take z)⟩, fun i c hc => ?_⟩
  · refine S.inj i j a ?_ ?_
    · have := (List.getElem?_eq_some_iff.mp h1).1
      rw [List.length_take] at this
      rw [List.getElem?_take_of_lt (by omega)] at h1; exact h1
    · have := (List.getElem?_eq_some_iff.mp h2).1
      rw [List.length_take] at this
      rw [List.getElem?_take_of_lt (by omega)] at h2; exact h2
  · have hi : i < n := by
      have := (List.getElem?_eq_some_iff.mp hc).1
      rw [List.length_take] at this; omega
    rw [List.getElem?_take_of_lt hi] at hc
    have x := S.cell i c hc
    have b : belowC n c = true := by
      rcases t.2 i c hi hc with h | h
      · have y := S0.cell i c h
        cases c with
        | dead => rfl
        | lst xs =>
          obtain ⟨b, ws, g1, g2, g3, g4⟩ := y
          have q := reps_below xs ws g4
          rw [hl'] at q; exact q
        | ins C fs =>
          obtain ⟨b, dx, ws, g1, g2, g3⟩ := y
          have q := freps_below fs ws g3
          rw [hl'] at q; exact q
      · exact h
    have h := b
    · cases c with
      | dead => trivial
      | lst xs =>
        obtain ⟨a, vs, h1, h2, h3, h4⟩ := x
        exact ⟨a, vs, by rw [List.getElem?_take_of_lt hi]; exact h1, h2, h3, Reps.mono .refl hid_take _ _ (below_reps hn _ _ h h4)⟩
      | ins C fs =>
        obtain ⟨a, dx, gs, h1, h2, h3⟩ := x
        exact ⟨a, dx, gs, by rw [List.getElem?_take_of_lt hi]; exact h1, h2, FReps.mono .refl hid_take _ _ (below_freps hn _ _ h h3)⟩
end

/-! ### a def's body as a function -/
/-- what leaves: the value as plain data, the outer store -/
noncomputable def leave (n : Nat) (st st1 : Sto) (d : D) : Option (R D) := open Classical in
  if TrOk n st st1 then match frz n st1 4 d with
    | some d' => some (.ok d' (st1.take n))
    | none => none
  else none
def frzX (n : Nat) (st1 : Sto) : Option (List (Str × D)) → Option (Option (List (Str × D)))
  | none => some none
  | some fs => match frzFs (frz n st1 4) fs with
    | some fs' => some (some fs')
    | none => none
noncomputable def leaveX (n : Nat) (st st1 : Sto) (C : Addr) (fs : Option (List (Str × D))) : Option (R D) := open Classical in
  if TrOk n st st1 then match frzX n st1 fs with
    | some fs' => some (.er C fs' (st1.take n))
    | none => none
  else none
/-- p: how many parameters, m: how many names the def has; f: its body -/
noncomputable def callM (p m : Nat) (f : SF) (ds : List D) : M D := fun st => if ds.length = p then (match f (startD m ds) st with
  | some (.ok (.rt d) st1) => leave st.length st st1 d
  | some (.ok (.nx _) st1) => leave st.length st st1 .non
  | some (.er C fs st1) => leaveX st.length st st1 C fs
  | _ => none) else none
section
variable {K : PySem.W.Frag} {μ μ' : Mu} {ν : List Addr} {H H' : Hp} {st st1 : Sto} {E : XK} {d : D}
theorem leave_rep {k : VK} {v : V} (S : StoOk K μ ν H st) (e : Ext ν μ H μ' H') (s1 : StoOk K μ' ν H' st1) (hv : Rep K μ' (hid μ' ν H') d v)
    (o : Out K ν E μ H (leave st.length st st1 d) fun d st' μ' H' => ∀ v, Rep K μ' (hid μ' ν H') d v → k v H') : k v H' := by
  unfold leave at o
  split at o
  · rename_i t
    split at o
    · rename_i d' hd
      have hn : st.length ≤ μ'.length := by rw [s1.len]; exact t.1
      exact o _ _ (ext_take e S.len) (sto_take S e s1 rfl t) v (frz_rep s1 hn 4 d d' v hd hv)
    · exact o.elim
  · exact o.elim
theorem leaveX_rep {C : Addr} {fs : Option (List (Str × D))} {dd : Option Addr} {k : D → Sto → Mu → Hp → Prop} (S : StoOk K μ ν H st) (e : Ext ν μ H μ' H') (s1 : StoOk K μ' ν H' st1) (hv : XOk K μ' (hid μ' ν H') fs dd)
    (o : Out K ν E μ H (leaveX st.length st st1 C fs) k) : E (.ref C) dd H' := by
  unfold leaveX at o
  split at o
  · rename_i t
    split at o
    · rename_i fs' hd
      have hn : st.length ≤ μ'.length := by rw [s1.len]; exact t.1
      refine o _ _ dd (ext_take e S.len) (sto_take S e s1 rfl t) ?_
      cases fs with
      | none => cases hd; exact hv
      | some fs =>
        unfold frzX at hd
        dsimp only at hd
        cases h2 : frzFs (frz st.length st1 4) fs with
        | none => rw [h2] at hd; cases hd
        | some fs2 =>
          rw [h2] at hd
          cases hd
          obtain ⟨a, gs, e1, e2, e3⟩ := hv
          exact ⟨a, gs, e1, hid_take _ _ e2, frz_fs (frz_rep s1 hn 4) fs fs2 gs h2 e3⟩
    · exact o.elim
  · exact o.elim
end
/-- a def of the text, by its body's function -/
theorem def_ok {P : Program} {w : World} {K : PySem.W.Frag} {mg : Str → Option Value} {base : Heap} {x qual : Str} {s : Stmt} {f : Addr} {fd : FuncData} {N ps : List Str} {k : Nat} {b : SF} (F : Fun K x qual s f fd) (S : FnScope N ps (defScope s))
    (hbody : ∀ (cdv : Value) (A : Around) (outer : List Env) (s0 : Shared) (H : Hp) (E : XK), Room k (A.deeper (envOfC qual (defScope s) s0.heap.objs.size f cdv)) →
      DSs (cxOf (L2.CX P w) P w K mg base N qual (defScope s) f cdv A outer s0 H E) E (defBody s) b) : FnOk P w K mg base (L2.CX P w) (k + 1) f fd ps (spD K (callM ps.length N.length b)) := by
  refine F.okX S (fun vs H Q E h => ?_) (fun cdv A outer s0 H vs Q E hr h => ⟨_, hbody cdv A outer s0 H E hr, ?_⟩)
  · obtain ⟨μ, ν, ds, st, S, r, o⟩ := h
    unfold callM at o
    split at o
    · rw [← r.len]; assumption
    · exact o.elim
  · obtain ⟨μ, ν, ds, st, S, r, o⟩ := h
    unfold callM at o
    split at o
    case isFalse => exact o.elim
    refine ⟨μ, ν, startD N.length ds, st, ⟨S, ?_⟩, ?_⟩
    · unfold startD L2.start
      rw [r.len]
      exact simE_start _ r
    · cases e : b (startD N.length ds) st with
      | none => rw [e] at o; exact o.elim
      | some res =>
        rw [e] at o
        cases res with
        | er C fs st1 => exact fun μ' H' dd e1 s1 hx => leaveX_rep S e1 s1 hx o
        | ok fl st1 =>
          intro μ' H' e1 s1
          cases fl with
          | rt d => exact fun v hv => leave_rep S e1 s1 hv o
          | nx δ => exact fun σ' _ => leave_rep S e1 s1 to_non o
          | bk δ => exact o.elim
          | ct δ => exact o.elim
end DL
end
section
namespace DL
open PySem PySem.Spec PyProof.Rows L2

section
variable {X : Cx} {E : XK} {pos : Pos}
/-- a statement that is never reached -/
def sNo : SF := fun _ => M.no
theorem ds_no {s : Stmt} : DSt X E s sNo := ps_imp ps_never fun T σ H ⟨μ, ν, δ, st, S, o⟩ => o.elim
theorem dss_no {s : List Stmt} : DSs X E s sNo := pss_imp pss_never fun T σ H ⟨μ, ν, δ, st, S, o⟩ => o.elim

/-! ### calls of defs -/
def eCall (g : List D → M D) (f : En → M (List D)) : EF := fun δ => (f δ).bind g
theorem tD_call {K : PySem.W.Frag} {g : List D → M D} {f : En → M (List D)} {σ : L2.St} {H : Hp} {Q : VK} (h : tD K E (eCall g f) σ H Q) : tCall (spD K g) [] E (tDs K E f) σ H Q := by
  obtain ⟨μ, ν, δ, st, S, o⟩ := h
  refine ⟨μ, ν, δ, st, S, o.fst.imp fun xs st1 μ1 H1 e1 s1 o1 vs hv => ?_⟩
  show spD K g (vs ++ []) H1 Q E
  rw [List.append_nil]
  exact ⟨μ1, ν, xs, st1, s1, hv, o1⟩
section
variable {k : Nat} {f C : Addr} {fd : FuncData} {ps : List Str} {g : List D → M D} {x m : Str} {p apos : Pos} {e o : Expr} {es : List Expr} {fa : En → M (List D)} {fo : EF}
theorem de_call (F : FnOk X.prog X.w X.K X.mg X.base (L2.CX X.prog X.w) k f fd ps (spD X.K g)) (hr : Room k X.A) (hm : X.mg x = some (.ref f)) (hk : PySem.W.keepIn X.K (.ref f) = true) (hb : Binds X.K fd ps []) (hx : Passes (L2.CX X.prog X.w) X E) (ha : DA X E (e :: es) fa) (hg : Gl X x := by rfl)
    (hdb : (x == ("__debug__" : Str)) = false := by decide) (he : starEach (e :: es) X.env = (false, eval e X.env) :: starEach es X.env := by rfl) (hpl : (backTo pos (starEach es X.env)).any (·.1) = false := by rfl) :
    DE X E (.Call (.Name x p) (e :: es) [] pos) (eCall g fa) := pe_imp (pe_call F hr hg hm hk hb .nil hx ha hdb he hpl) fun σ H Q h => tD_call h
theorem de_call0 (F : FnOk X.prog X.w X.K X.mg X.base (L2.CX X.prog X.w) k f fd ps (spD X.K g)) (hr : Room k X.A) (hm : X.mg x = some (.ref f)) (hk : PySem.W.keepIn X.K (.ref f) = true) (hb : Binds X.K fd ps []) (hx : Passes (L2.CX X.prog X.w) X E) (hg : Gl X x := by rfl)
    (hdb : (x == ("__debug__" : Str)) = false := by decide) :
    DE X E (.Call (.Name x p) [] [] pos) (eCall g eNil) := pe_imp (pe_call0 F hr hg hm hk hb .nil hx hdb) fun σ H Q ⟨μ, ν, δ, st, S, o⟩ => by
  exact ⟨μ, ν, [], st, S.sto, .nil, o⟩

/-! ### a def as a value, and its call by a name of the caller's own -/
theorem de_fn {f0 : Addr} (hm : X.mg x = some (.ref f)) (h0 : f0 = f) (hg : Gl X x := by rfl) (hdb : (x == ("__debug__" : Str)) = false := by decide) : DE X E (.Name x p) (eC (.fn f0)) :=
  de_c (v := .ref f) (pe_glob hg hm rfl hdb) fun _ _ => by unfold Rep; rw [h0]
def eCallL (i : Nat) (f0 : Addr) (g : List D → M D) (f : En → M (List D)) : EF := fun δ st => match δ[i]? with
  | some (some (.fn f')) => if f' = f0 then eCall g f δ st else none
  | _ => none
theorem de_callL {i : Nat} {f0 : Addr} (F : FnOk X.prog X.w X.K X.mg X.base (L2.CX X.prog X.w) k f fd ps (spD X.K g)) (hr : Room k X.A) (h0 : f0 = f) (hk : PySem.W.keepIn X.K (.ref f) = true) (hb : Binds X.K fd ps []) (hx : Passes (L2.CX X.prog X.w) X E) (ha : DA X E (e :: es) fa)
    (hN : X.N[i]? = some x := by rfl) (hv : Vis X.env.scope x := by first | exact Or.inl rfl | exact Or.inr (Or.inl rfl) | exact Or.inr (Or.inr rfl))
    (hdb : (x == ("__debug__" : Str)) = false := by decide) (hcd : (x == ("__classdict__" : Str)) = false := by decide) (he : starEach (e :: es) X.env = (false, eval e X.env) :: starEach es X.env := by rfl) (hpl : (backTo pos (starEach es X.env)).any (·.1) = false := by rfl) :
    DE X E (.Call (.Name x p) (e :: es) [] pos) (eCallL i f0 g fa) := pe_imp (pe_callL (i := i) F hr hN hv hk hb .nil hx ha hdb hcd he hpl) fun σ H Q ⟨μ, ν, δ, st, S, o⟩ => by
  unfold eCallL at o
  split at o
  · rename_i f' hf
    split at o
    · rename_i hq
      subst hq
      subst h0
      obtain ⟨v, h1, h2⟩ := S.env.get hf
      unfold Rep at h2
      subst h2
      exact ⟨h1, tD_call ⟨μ, ν, δ, st, S, o⟩⟩
    · exact o.elim
  · exact o.elim
/-! ### instances -/
/-- the class and the attributes of an instance -/
def asI (st : Sto) : D → Option (Addr × List (Str × D))
  | .ins C fs => some (C, fs)
  | .obj i => match st[i]? with
    | some (.ins C fs) => some (C, fs)
    | _ => none
  | _ => none
theorem asI_rep {K : PySem.W.Frag} {μ : Mu} {ν : List Addr} {H : Hp} {st : Sto} (S : StoOk K μ ν H st) {d : D} {v : V} {C : Addr} {fs : List (Str × D)} (h : Rep K μ (hid μ ν H) d v) (e : asI st d = some (C, fs)) :
    ∃ a dx gs, v = .ref a ∧ H a = some (.ins C dx gs) ∧ FReps K μ (hid μ ν H) fs gs := by
  unfold asI at e
  split at e
  · cases e
    unfold Rep at h
    obtain ⟨a, dx, gs, e1, e2, e3⟩ := h
    exact ⟨a, dx, gs, e1, (hid_some e2).1, e3⟩
  · split at e
    · cases e
      rename_i hc
      obtain ⟨⟨a, dx, gs, h1, h2, h3⟩, hv⟩ := S.obj h hc
      exact ⟨a, dx, gs, hv a h1, h2, h3⟩
    · cases e
  · cases e
theorem freps_look {K : PySem.W.Frag} {μ : Mu} {G : Hp} {m : Str} : ∀ {fs : List (Str × D)} {gs : List (Str × V)}, FReps K μ G fs gs → (∀ d, fs.lookup m = some d → ∃ v, gs.lookup m = some v ∧ Rep K μ G d v) ∧ (fs.lookup m = none → gs.lookup m = none)
  | [], gs, h => by
    unfold FReps at h
    subst h
    exact ⟨fun d z => by simp at z, fun _ => rfl⟩
  | p :: fs, gs, h => by
    unfold FReps at h
    obtain ⟨v, r, rfl, h1, h2⟩ := h
    obtain ⟨a, b⟩ := freps_look (m := m) h2
    obtain ⟨n, d0⟩ := p
    by_cases hm : m = n
    · subst hm
      refine ⟨fun d z => ?_, fun z => ?_⟩
      · have : (List.lookup m ((m, d0) :: fs)) = some d0 := by simp [List.lookup]
        rw [this] at z
        cases z
        exact ⟨v, by simp [List.lookup], h1⟩
      · have : (List.lookup m ((m, d0) :: fs)) = some d0 := by simp [List.lookup]
        rw [this] at z; cases z
    · have hb : (m == n) = false := by simpa using hm
      refine ⟨fun d z => ?_, fun z => ?_⟩
      · have q : List.lookup m ((n, d0) :: fs) = fs.lookup m := by simp [List.lookup, hb]
        rw [q] at z
        obtain ⟨u, h3, h4⟩ := a d z
        exact ⟨u, by simpa [List.lookup, hb] using h3, h4⟩
      · have q : List.lookup m ((n, d0) :: fs) = fs.lookup m := by simp [List.lookup, hb]
        rw [q] at z
        have := b z
        simpa [List.lookup, hb] using this
def ofC (C : Addr) (m : Str) (o : D) : M Unit := fun st => match asI st o with
  | some (C', fs) => if C' = C ∧ fs.lookup m = none then some (.ok () st) else none
  | none => none
/-- o.m(..) -/
def eMeth (C : Addr) (m : Str) (g : List D → M D) (fo : EF) (f : En → M (List D)) : EF := fun δ => (fo δ).bind fun o => (ofC C m o).bind fun _ => (f δ).bind fun xs => g (o :: xs)
theorem tD_meth {K : PySem.W.Frag} {σ : L2.St} {H : Hp} {Q : VK} {f : En → M (List D)} (h : tD K E (eMeth C m g fo f) σ H Q) : tMeth C m (spD K g) [] E (tD K E fo) (tDs K E f) σ H Q := by
  obtain ⟨μ, ν, δ, st, S, o⟩ := h
  refine ⟨μ, ν, δ, st, S, o.fst.imp fun d st1 μ1 H1 e1 s1 o1 v hv => ?_⟩
  have o2 := o1.fst
  unfold ofC at o2
  split at o2
  · rename_i C' fs hI
    split at o2
    · rename_i hc
      obtain ⟨rfl, hl⟩ := hc
      obtain ⟨a, dx, gs, rfl, ha, hf⟩ := asI_rep s1 hv hI
      refine ⟨a, dx, gs, rfl, ha, (freps_look hf).2 hl, ?_⟩
      have o3 := o2.now s1
      refine ⟨μ1, ν, δ, st1, S.ext e1 s1, o3.fst.imp fun xs st2 μ2 H2 e2 s2 o4 vs hvs => ?_⟩
      show spD K g (.ref a :: (vs ++ [])) H2 Q E
      rw [List.append_nil]
      exact ⟨μ2, ν, d :: xs, st2, s2, .cons (hv.ext e2) hvs, o4⟩
    · exact o2.elim
  · exact o2.elim
theorem de_meth {pl : Sem Bool} (he : DE X E o fo) (c : Cls X.K C) (hm : Meth X.K C m f) (F : FnOk X.prog X.w X.K X.mg X.base (L2.CX X.prog X.w) k f fd ps (spD X.K g)) (hr : Room k X.A) (hb : Binds X.K fd ps []) (hx : Passes (L2.CX X.prog X.w) X E) (ha : DA X E (e :: es) fa)
    (hst : starEach (e :: es) X.env = (false, eval e X.env) :: starEach es X.env := by rfl) (hpl : (backTo pos (starEach es X.env)).any (·.1) = false := by rfl)
    (ht : eval (.Call (.Attribute o m apos) (e :: es) [] pos) X.env = (do
      let ov ← eval o X.env
      standAt apos.atName
      let (f, first) ← holding [ov] (getMethod ov m pl)
      callWith pos f first (backTo pos (starEach (e :: es) X.env)) (backToKw pos (keywordEach [] X.env))) := by rfl) :
    DE X E (.Call (.Attribute o m apos) (e :: es) [] pos) (eMeth C m g fo fa) := pe_imp (pe_meth he c hm F hr hb .nil hx ha hst hpl ht) fun σ H Q h => tD_meth h
theorem de_meth0 {pl : Sem Bool} (he : DE X E o fo) (c : Cls X.K C) (hm : Meth X.K C m f) (F : FnOk X.prog X.w X.K X.mg X.base (L2.CX X.prog X.w) k f fd ps (spD X.K g)) (hr : Room k X.A) (hb : Binds X.K fd ps []) (hx : Passes (L2.CX X.prog X.w) X E)
    (ht : eval (.Call (.Attribute o m apos) [] [] pos) X.env = (do
      let ov ← eval o X.env
      standAt apos.atName
      let (f, first) ← holding [ov] (getMethod ov m pl)
      callWith pos f first (backTo pos (starEach [] X.env)) (backToKw pos (keywordEach [] X.env))) := by rfl) :
    DE X E (.Call (.Attribute o m apos) [] [] pos) (eMeth C m g fo eNil) := pe_imp (pe_meth0 he c hm F hr hb .nil hx ht) fun σ H Q h => by
  obtain ⟨μ, ν, δ, st, S, o⟩ := h
  refine ⟨μ, ν, δ, st, S, o.fst.imp fun d st1 μ1 H1 e1 s1 o1 v hv => ?_⟩
  have o2 := o1.fst
  unfold ofC at o2
  split at o2
  · rename_i C' fs hI
    split at o2
    · rename_i hc
      obtain ⟨rfl, hl⟩ := hc
      obtain ⟨a, dx, gs, rfl, ha, hf⟩ := asI_rep s1 hv hI
      have o3 := o2.now s1
      exact ⟨a, dx, gs, rfl, ha, (freps_look hf).2 hl, μ1, ν, [d], st1, s1, .one hv, o3⟩
    · exact o2.elim
  · exact o2.elim
/-- C(..), as plain data -/
noncomputable def makeM (C : Addr) (g : List D → M D) (xs : List D) : M D := fun st => match g (.obj st.length :: xs) (st ++ [.ins C []]) with
  | some (.ok .non st1) => leave st.length st st1 (.obj st.length)
  | some (.er C' fs st1) => leaveX st.length st st1 C' fs
  | _ => none
noncomputable def eMake (C : Addr) (g : List D → M D) (f : En → M (List D)) : EF := fun δ => (f δ).bind (makeM C g)
theorem tD_make {K : PySem.W.Frag} {σ : L2.St} {H : Hp} {Q : VK} {f : En → M (List D)} (h : tD K E (eMake C g f) σ H Q) : tMake C (spD K g) [] E (tDs K E f) σ H Q := by
  obtain ⟨μ, ν, δ, st, S, o⟩ := h
  refine ⟨μ, ν, δ, st, S, o.fst.imp fun xs st1 μ1 H1 e1 s1 o1 vs hvs => ?_⟩
  intro x dx nx nd hne
  show spD K g (.ref x :: (vs ++ [])) _ _ E
  rw [List.append_nil]
  -- the new dict, then the new instance
  have s2 := s1.new (o := .own x) nd
  have e2 := s1.ext_new (o := .own x) nd
  have nx2 : (upd H1 dx (.own x)) x = none := by rw [upd_ne hne.symm]; exact nx
  have e3 : Ext ν μ1 (upd H1 dx (.own x)) (μ1 ++ [some x]) (upd (upd H1 dx (.own x)) x (.ins C dx [])) := hid_push s2 nx2
  have s3 : StoOk K (μ1 ++ [some x]) ν (upd (upd H1 dx (.own x)) x (.ins C dx [])) (st1 ++ [.ins C []]) := by
    refine s2.push nx2 ⟨x, dx, [], ?_, upd_same, by unfold FReps; rfl⟩
    rw [List.getElem?_append_right (Nat.le_refl _), Nat.sub_self]; rfl
  have hx : Rep K (μ1 ++ [some x]) (hid (μ1 ++ [some x]) ν (upd (upd H1 dx (.own x)) x (.ins C dx []))) (.obj st1.length) (.ref x) := by
    unfold Rep
    rw [← s1.len]
    refine ⟨by rw [List.length_append]; exact Nat.lt_succ_self _, fun a e => ?_⟩
    rw [List.getElem?_append_right (Nat.le_refl _), Nat.sub_self] at e
    simp at e
    rw [e]
  refine ⟨μ1 ++ [some x], ν, .obj st1.length :: xs, st1 ++ [.ins C []], s3, .cons hx ((hvs.ext e2).ext e3), ?_⟩
  unfold makeM at o1
  cases hg : g (.obj st1.length :: xs) (st1 ++ [.ins C []]) with
  | none => rw [hg] at o1; exact o1.elim
  | some res =>
    rw [hg] at o1
    cases res with
    | er C' fs st4 => exact fun μ' H' dd e4 s4 hxo => leaveX_rep s1 ((e2.trans e3).trans e4) s4 hxo o1
    | ok d st4 =>
      intro μ' H' e4 s4 v hv
      cases d with
      | non =>
        rw [rep_non hv]
        exact ⟨rfl, leave_rep s1 ((e2.trans e3).trans e4) s4 (hx.ext e4) o1⟩
      | _ => exact o1.elim
theorem de_make (M' : Mk X.K C f) (F : FnOk X.prog X.w X.K X.mg X.base (L2.CX X.prog X.w) k f fd ps (spD X.K g)) (hr : Room (k + 1) X.A) (hm : X.mg x = some (.ref C)) (hb : Binds X.K fd ps []) (hx : Passes (L2.CX X.prog X.w) X E) (ha : DA X E (e :: es) fa) (hg : Gl X x := by rfl)
    (hdb : (x == ("__debug__" : Str)) = false := by decide) (he : starEach (e :: es) X.env = (false, eval e X.env) :: starEach es X.env := by rfl) (hpl : (backTo pos (starEach es X.env)).any (·.1) = false := by rfl) :
    DE X E (.Call (.Name x p) (e :: es) [] pos) (eMake C g fa) := pe_imp (pe_make M' F hr hg hm hb .nil hx ha hdb he hpl) fun σ H Q h => tD_make h
/-- o.f, an attribute -/
def fldD (fl : Str) (o : D) : M D := fun st => match asI st o with
  | some (_, fs) => match fs.lookup fl with
    | some d => some (.ok d st)
    | none => none
  | none => none
/-- .. of an instance of the class at C -/
def fldC (C : Addr) (fl : Str) (o : D) : M D := fun st => match asI st o with
  | some (C', fs) => if C' = C then (match fs.lookup fl with
    | some d => some (.ok d st)
    | none => none) else none
  | none => none
def eFld (C : Addr) (fl : Str) (fo : EF) : EF := fun δ => (fo δ).bind (fldC C fl)
theorem de_fld {fl : Str} (he : DE X E o fo) (c : Cls X.K C) (n : NoAttr X.K C fl) (hb : attributeBase o fl X.env (eval o X.env) = eval o X.env := by rfl) : DE X E (.Attribute o fl pos) (eFld C fl fo) := pe_imp (pe_fld he hb) fun σ H Q ⟨μ, ν, δ, st, S, o⟩ => by
  refine ⟨μ, ν, δ, st, S, o.fst.imp fun d st1 μ1 H1 e1 s1 o1 v hv => ?_⟩
  unfold fldC at o1
  split at o1
  · rename_i C' fs hI
    split at o1
    · rename_i hc
      subst hc
      split at o1
      · rename_i d' hd
        obtain ⟨a, dx, gs, rfl, ha, hf⟩ := asI_rep s1 hv hI
        obtain ⟨w, h1, h2⟩ := (freps_look hf).1 d' hd
        exact ⟨a, C', dx, gs, w, rfl, ha, c, n, h1, o1.now s1 _ h2⟩
      · exact o1.elim
    · exact o1.elim
  · exact o1.elim
/-- o.f, a property -/
def ofC' (C : Addr) (o : D) : M Unit := fun st => match asI st o with
  | some (C', fs) => if C' = C then some (.ok () st) else none
  | none => none
def eProp (C : Addr) (g : List D → M D) (fo : EF) : EF := fun δ => (fo δ).bind fun o => (ofC' C o).bind fun _ => noer (g [o])
theorem de_prop {pp gg : Addr} {fl : Str} (he : DE X E o fo) (c : Cls X.K C) (hp : PropOf X.K C fl pp gg) (F : FnOk X.prog X.w X.K X.mg X.base (L2.CX X.prog X.w) k gg fd ps (spD X.K g)) (hr : Room (k + 1) X.A) (hb : Binds X.K fd ps [])
    (hab : attributeBase o fl X.env (eval o X.env) = eval o X.env := by rfl) : DE X E (.Attribute o fl pos) (eProp C g fo) := pe_imp (pe_prop he c hp F hr hb .nil (passL (X := X.nox)) hab) fun σ H Q ⟨μ, ν, δ, st, S, o⟩ => by
  refine ⟨μ, ν, δ, st, S, o.fst.imp fun d st1 μ1 H1 e1 s1 o1 v hv => ?_⟩
  have o2 := o1.fst
  unfold ofC' at o2
  split at o2
  · rename_i C' fs hI
    split at o2
    · rename_i hc
      subst hc
      obtain ⟨a, dx, gs, rfl, ha, hf⟩ := asI_rep s1 hv hI
      exact ⟨a, dx, gs, rfl, ha, μ1, ν, [d], st1, s1, .one hv, (o2.now s1).noer⟩
    · exact o2.elim
  · exact o2.elim
/-- o.f = e -/
def putD (fl : Str) (d : D) : List (Str × D) → List (Str × D)
  | [] => [(fl, d)]
  | p :: r => if p.1 = fl then (fl, d) :: r else p :: putD fl d r
def sFldD (C : Addr) (fl : Str) (fo fe : EF) : SF := fun δ => (fe δ).bind fun d => (fo δ).bind fun o st => match o with
  | .obj i => match st[i]? with
    | some (.ins C' fs) => if C' = C ∧ fs.length < 1000 then some (.ok (.nx δ) (st.set i (.ins C (putD fl d fs)))) else none
    | _ => none
  | _ => none
theorem putF_rep {K : PySem.W.Frag} {μ : Mu} {G : Hp} {fl : Str} {d : D} {v : V} (h : Rep K μ G d v) : ∀ {fs : List (Str × D)} {gs : List (Str × V)}, FReps K μ G fs gs → FReps K μ G (putD fl d fs) (putF fl v gs)
  | [], gs, hf => by
    unfold FReps at hf
    subst hf
    show FReps K μ G [(fl, d)] [(fl, v)]
    unfold FReps
    exact ⟨v, [], rfl, h, by unfold FReps; rfl⟩
  | p :: fs, gs, hf => by
    unfold FReps at hf
    obtain ⟨w, r, rfl, h1, h2⟩ := hf
    unfold putD putF
    by_cases hp : p.1 = fl
    · rw [if_pos hp, if_pos hp]
      subst hp
      unfold FReps
      exact ⟨v, r, rfl, h, h2⟩
    · rw [if_neg hp, if_neg hp]
      unfold FReps
      exact ⟨w, _, rfl, h1, putF_rep h h2⟩
theorem freps_len {K : PySem.W.Frag} {μ : Mu} {G : Hp} : ∀ {fs : List (Str × D)} {gs : List (Str × V)}, FReps K μ G fs gs → fs.length = gs.length
  | [], gs, h => by unfold FReps at h; subst h; rfl
  | p :: fs, gs, h => by
    unfold FReps at h
    obtain ⟨w, r, rfl, h1, h2⟩ := h
    rw [List.length_cons, List.length_cons, freps_len h2]
theorem ds_fld {fl : Str} {v : Expr} {fe : EF} {pos' : Pos} (he : DE X E o fo) (hv : DE X E v fe) (c : Cls X.K C) (n : NoAttr X.K C fl) (hs : swapsWith v (some (.Attribute o fl pos')) pos.line X.env = pure false := by rfl) :
    DSt X E (.Assign [.Attribute o fl pos'] v pos) (sFldD C fl fo fe) := ps_imp (ps_fld he hv hs) fun T σ H ⟨μ, ν, δ, st, S, o⟩ => by
  refine ⟨μ, ν, δ, st, S, o.fst.imp fun d st1 μ1 H1 e1 s1 o1 y hy => ?_⟩
  refine ⟨μ1, ν, δ, st1, S.ext e1 s1, o1.fst.imp fun ob st2 μ2 H2 e2 s2 o2 x hx => ?_⟩
  split at o2
  · rename_i i
    split at o2
    · rename_i C' fs hc
      split at o2
      · rename_i hh
        obtain ⟨rfl, hl⟩ := hh
        obtain ⟨⟨a, dx, gs, h1, h2, h3⟩, hav⟩ := s2.obj hx hc
        refine ⟨a, C', dx, gs, hav a h1, h2, c, n, by rw [← freps_len h3]; exact hl, ?_⟩
        have e3 : Ext ν μ2 H2 μ2 (upd H2 a (.ins C' dx (putF fl y gs))) := (s2.put (c := .dead) h1 trivial).2
        have P := s2.put (o := .ins C' dx (putF fl y gs)) (c := .ins C' (putD fl d fs)) h1 ⟨a, dx, _, h1, upd_same, (putF_rep (hy.ext e2) h3).ext e3⟩
        have q := (o2.go rfl P.2 P.1)
        exact q σ ((((S.env.ext e1).ext e2)).ext P.2)
      · exact o2.elim
    · exact o2.elim
  · exact o2.elim
end
end
end DL
end
section
namespace DL
open PySem PySem.Spec PyProof.Rows L2

/-! ### built-in functions -/
def lenD (ds : List D) : M D := fun st => match ds with
  | [.tup xs] => some (.ok (.int (xs.length : Nat)) st)
  | [.str x] => if x.length ≤ sizeLine then some (.ok (.int (x.length : Nat)) st) else none
  | [d] => match asL st d with
    | some xs => some (.ok (.int (xs.length : Nat)) st)
    | none => none
  | _ => none
section
variable {X : Cx} {E : XK} {pos : Pos}
theorem reps_one {K : PySem.W.Frag} {μ : Mu} {G : Hp} {d : D} {vs : List V} (h : Reps K μ G [d] vs) : ∃ v, vs = [v] ∧ Rep K μ G d v := by
  unfold Reps at h
  obtain ⟨v, r, rfl, h1, h2⟩ := h
  unfold Reps at h2
  subst h2
  exact ⟨v, rfl, h1⟩
theorem reps_two {K : PySem.W.Frag} {μ : Mu} {G : Hp} {d e : D} {vs : List V} (h : Reps K μ G [d, e] vs) : ∃ v w, vs = [v, w] ∧ Rep K μ G d v ∧ Rep K μ G e w := by
  unfold Reps at h
  obtain ⟨v, r, rfl, h1, h2⟩ := h
  obtain ⟨w, rfl, h3⟩ := reps_one h2
  exact ⟨v, w, rfl, h1, h3⟩
theorem cd_len : CallR X (.builtin "len") (rDs X.K E lenD) := callR_imp call_len fun xs H Q ⟨μ, ν, ds, st, S, r, o⟩ => by
  unfold lenD at o
  split at o
  · obtain ⟨v, rfl, h⟩ := reps_one r
    obtain ⟨a, vs, rfl, e2, e3, e4⟩ := asT_rep h rfl
    exact ⟨_, _, rfl, .inr ⟨vs, e2, e4.len⟩, o.now S _ to_int⟩
  · obtain ⟨v, rfl, h⟩ := reps_one r
    split at o
    · rename_i hx
      rw [rep_str h]
      exact ⟨_, _, rfl, ⟨hx, rfl⟩, o.now S _ to_int⟩
    · exact o.elim
  · obtain ⟨v, rfl, h⟩ := reps_one r
    split at o
    · rename_i hx
      obtain ⟨a, vs, rfl, e2, e3, e4⟩ := asL_rep S h hx
      exact ⟨_, _, rfl, .inl ⟨vs, e2, e4.len⟩, o.now S _ to_int⟩
    · exact o.elim
  · exact o.elim
/-- list(..) -/
def listD (ds : List D) : M D := fun st => match ds with
  | [.tup xs] => some (.ok (.lst xs) st)
  | [d] => match asL st d with
    | some xs => some (.ok (.lst xs) st)
    | none => none
  | _ => none
/-- .. into the store -/
def listN (ds : List D) : M D := fun st => match ds with
  | [.tup xs] => some (.ok (.obj st.length) (st ++ [.lst xs]))
  | [d] => match asL st d with
    | some xs => some (.ok (.obj st.length) (st ++ [.lst xs]))
    | none => none
  | _ => none
theorem cd_list : CallR X (.type "list") (rDs X.K E listD) := callR_imp call_list_of fun xs H Q ⟨μ, ν, ds, st, S, r, o⟩ => by
  unfold listD at o
  split at o
  · obtain ⟨v, rfl, h⟩ := reps_one r
    obtain ⟨a, vs, rfl, e2, e3, e4⟩ := asT_rep h rfl
    exact ⟨a, vs, rfl, .inr e2, fun p hp => o.go rfl (S.ext_new hp) (S.new hp) _ (rep_lst S hp e3 e4)⟩
  · obtain ⟨v, rfl, h⟩ := reps_one r
    split at o
    · rename_i hx
      obtain ⟨a, vs, rfl, e2, e3, e4⟩ := asL_rep S h hx
      exact ⟨a, vs, rfl, .inl e2, fun p hp => o.go rfl (S.ext_new hp) (S.new hp) _ (rep_lst S hp e3 e4)⟩
    · exact o.elim
  · exact o.elim
theorem cd_listN : CallR X (.type "list") (rDs X.K E listN) := callR_imp call_list_of fun xs H Q ⟨μ, ν, ds, st, S, r, o⟩ => by
  unfold listN at o
  split at o
  · obtain ⟨v, rfl, h⟩ := reps_one r
    obtain ⟨a, vs, rfl, e2, e3, e4⟩ := asT_rep h rfl
    exact ⟨a, vs, rfl, .inr e2, fun p hp => let ⟨s1, s2, s3⟩ := sto_lst S hp e3 e4; o.go rfl s2 s1 _ s3⟩
  · obtain ⟨v, rfl, h⟩ := reps_one r
    split at o
    · rename_i hx
      obtain ⟨a, vs, rfl, e2, e3, e4⟩ := asL_rep S h hx
      exact ⟨a, vs, rfl, .inl e2, fun p hp => let ⟨s1, s2, s3⟩ := sto_lst S hp e3 e4; o.go rfl s2 s1 _ s3⟩
    · exact o.elim
  · exact o.elim
def tupleD (ds : List D) : M D := fun st => match ds with
  | [.tup xs] => some (.ok (.tup xs) st)
  | [d] => match asL st d with
    | some xs => some (.ok (.tup xs) st)
    | none => none
  | _ => none
theorem cd_tuple : CallR X (.type "tuple") (rDs X.K E tupleD) := callR_imp call_tuple_of fun xs H Q ⟨μ, ν, ds, st, S, r, o⟩ => by
  unfold tupleD at o
  split at o
  · obtain ⟨v, rfl, h⟩ := reps_one r
    have h' := h
    obtain ⟨a, vs, rfl, e2, e3, e4⟩ := asT_rep h rfl
    exact ⟨a, vs, rfl, .inr ⟨e2, o.now S _ h'⟩⟩
  · obtain ⟨v, rfl, h⟩ := reps_one r
    split at o
    · rename_i hx
      obtain ⟨a, vs, rfl, e2, e3, e4⟩ := asL_rep S h hx
      exact ⟨a, vs, rfl, .inl ⟨e2, fun p hp => o.go rfl (S.ext_new hp) (S.new hp) _ (rep_tup S hp e3 e4)⟩⟩
    · exact o.elim
  · exact o.elim
def max2D (ds : List D) : M D := fun st => match ds with
  | [.int i, .int j] => some (.ok (.int (if j > i then j else i)) st)
  | _ => none
def min2D (ds : List D) : M D := fun st => match ds with
  | [.int i, .int j] => some (.ok (.int (if j < i then j else i)) st)
  | _ => none
theorem cd_max2 (hc : X.calm = true) : CallR X (.builtin "max") (rDs X.K E max2D) := callR_imp (call_max2 hc) fun xs H Q ⟨μ, ν, ds, st, S, r, o⟩ => by
  unfold max2D at o
  split at o
  · obtain ⟨v, w, rfl, h1, h2⟩ := reps_two r
    rw [rep_int h1, rep_int h2]
    exact ⟨_, _, rfl, o.now S _ to_int⟩
  · exact o.elim
theorem cd_min2 (hc : X.calm = true) : CallR X (.builtin "min") (rDs X.K E min2D) := callR_imp (call_min2 hc) fun xs H Q ⟨μ, ν, ds, st, S, r, o⟩ => by
  unfold min2D at o
  split at o
  · obtain ⟨v, w, rfl, h1, h2⟩ := reps_two r
    rw [rep_int h1, rep_int h2]
    exact ⟨_, _, rfl, o.now S _ to_int⟩
  · exact o.elim
/-- a list of ints, of bools -/
def asInts : List D → Option (List Int)
  | [] => some []
  | .int i :: r => match asInts r with
    | some l => some (i :: l)
    | none => none
  | _ => none
def asBls : List D → Option (List Bool)
  | [] => some []
  | .bl i :: r => match asBls r with
    | some l => some (i :: l)
    | none => none
  | _ => none
theorem asInts_map {ns : List Int} : asInts (ns.map D.int) = some ns := by
  induction ns with
  | nil => rfl
  | cons n ns ih => rw [List.map_cons]; unfold asInts; rw [ih]
theorem asBls_map {ns : List Bool} : asBls (ns.map D.bl) = some ns := by
  induction ns with
  | nil => rfl
  | cons n ns ih => rw [List.map_cons]; unfold asBls; rw [ih]
theorem asInts_eq : ∀ {ds : List D} {ns : List Int}, asInts ds = some ns → ds = ns.map D.int
  | [], ns, h => by cases h; rfl
  | .int i :: ds, ns, h => by
    unfold asInts at h
    cases q : asInts ds with
    | none => rw [q] at h; cases h
    | some l =>
      rw [q] at h
      cases h
      rw [asInts_eq q]; rfl
  | .non :: ds, ns, h => by unfold asInts at h; cases h
  | .bl _ :: ds, ns, h => by unfold asInts at h; cases h
  | .str _ :: ds, ns, h => by unfold asInts at h; cases h
  | .lst _ :: ds, ns, h => by unfold asInts at h; cases h
  | .fl _ :: ds, ns, h => by unfold asInts at h; cases h
  | .tup _ :: ds, ns, h => by unfold asInts at h; cases h
  | .ins _ _ :: ds, ns, h => by unfold asInts at h; cases h
  | .exc _ _ :: ds, ns, h => by unfold asInts at h; cases h
  | .dct _ :: ds, ns, h => by unfold asInts at h; cases h
  | .obj _ :: ds, ns, h => by unfold asInts at h; cases h
  | .fn _ :: ds, ns, h => by unfold asInts at h; cases h
theorem asBls_eq : ∀ {ds : List D} {ns : List Bool}, asBls ds = some ns → ds = ns.map D.bl
  | [], ns, h => by cases h; rfl
  | .bl i :: ds, ns, h => by
    unfold asBls at h
    cases q : asBls ds with
    | none => rw [q] at h; cases h
    | some l =>
      rw [q] at h
      cases h
      rw [asBls_eq q]; rfl
  | .non :: ds, ns, h => by unfold asBls at h; cases h
  | .int _ :: ds, ns, h => by unfold asBls at h; cases h
  | .str _ :: ds, ns, h => by unfold asBls at h; cases h
  | .lst _ :: ds, ns, h => by unfold asBls at h; cases h
  | .fl _ :: ds, ns, h => by unfold asBls at h; cases h
  | .tup _ :: ds, ns, h => by unfold asBls at h; cases h
  | .ins _ _ :: ds, ns, h => by unfold asBls at h; cases h
  | .exc _ _ :: ds, ns, h => by unfold asBls at h; cases h
  | .dct _ :: ds, ns, h => by unfold asBls at h; cases h
  | .obj _ :: ds, ns, h => by unfold asBls at h; cases h
  | .fn _ :: ds, ns, h => by unfold asBls at h; cases h
theorem reps_ints {K : PySem.W.Frag} {μ : Mu} {G : Hp} : ∀ {ns : List Int} {vs : List V}, Reps K μ G (ns.map D.int) vs → vs = ns.map V.int
  | [], vs, h => by unfold Reps at h; exact h
  | n :: ns, vs, h => by
    rw [List.map_cons] at h
    unfold Reps at h
    obtain ⟨v, r, rfl, h1, h2⟩ := h
    rw [rep_int h1, reps_ints h2]; rfl
theorem reps_bls {K : PySem.W.Frag} {μ : Mu} {G : Hp} : ∀ {ns : List Bool} {vs : List V}, Reps K μ G (ns.map D.bl) vs → vs = ns.map V.bl
  | [], vs, h => by unfold Reps at h; exact h
  | n :: ns, vs, h => by
    rw [List.map_cons] at h
    unfold Reps at h
    obtain ⟨v, r, rfl, h1, h2⟩ := h
    rw [rep_bl h1, reps_bls h2]; rfl
def allD (ds : List D) : M D := fun st => match ds with
  | [d] => match asL st d with
    | some xs => match asBls xs with
      | some bs => some (.ok (.bl (bs.all id)) st)
      | none => none
    | none => none
  | _ => none
def anyBD (ds : List D) : M D := fun st => match ds with
  | [d] => match asL st d with
    | some xs => match asBls xs with
      | some bs => some (.ok (.bl (bs.any id)) st)
      | none => none
    | none => none
  | _ => none
theorem cd_all (hc : X.calm = true) : CallR X (.builtin "all") (rDs X.K E allD) := callR_imp (cr_all hc) fun xs H Q ⟨μ, ν, ds, st, S, r, o⟩ => by
  unfold allD at o
  split at o
  · obtain ⟨v, rfl, h⟩ := reps_one r
    split at o
    · rename_i hx
      split at o
      · rename_i bs hb
        obtain ⟨a, vs, rfl, e2, e3, e4⟩ := asL_rep S h hx
        rw [asBls_eq hb] at e4
        rw [reps_bls e4] at e2
        exact ⟨a, bs, rfl, e2, o.now S _ to_bl⟩
      · exact o.elim
    · exact o.elim
  · exact o.elim
def sumD (ds : List D) : M D := fun st => match ds with
  | [d] => match asL st d with
    | some xs => match asInts xs with
      | some ns => some (.ok (.int ns.sum) st)
      | none => none
    | none => none
  | _ => none
theorem cd_sum (hc : X.calm = true) : CallR X (.builtin "sum") (rDs X.K E sumD) := callR_imp (cr_sum hc) fun xs H Q ⟨μ, ν, ds, st, S, r, o⟩ => by
  unfold sumD at o
  split at o
  · obtain ⟨v, rfl, h⟩ := reps_one r
    split at o
    · rename_i hx
      split at o
      · rename_i bs hb
        obtain ⟨a, vs, rfl, e2, e3, e4⟩ := asL_rep S h hx
        rw [asInts_eq hb] at e4
        rw [reps_ints e4] at e2
        exact ⟨a, bs, rfl, e2, o.now S _ to_int⟩
      · exact o.elim
    · exact o.elim
  · exact o.elim
/-- int(..) of an int or a bool -/
def intD (ds : List D) : M D := fun st => match ds with
  | [.int i] => some (.ok (.int i) st)
  | [.bl b] => some (.ok (.int (if b then 1 else 0)) st)
  | _ => none
theorem cd_int : CallR X (.type "int") (rDs X.K E intD) := callR_imp call_int1 fun xs H Q ⟨μ, ν, ds, st, S, r, o⟩ => by
  unfold intD at o
  split at o
  · obtain ⟨v, rfl, h⟩ := reps_one r
    rw [rep_int h]
    exact .inl ⟨_, rfl, o.now S _ to_int⟩
  · obtain ⟨v, rfl, h⟩ := reps_one r
    rw [rep_bl h]
    exact .inr ⟨_, rfl, o.now S _ to_int⟩
  · exact o.elim
/-! calls of them -/
theorem tDs_cb {K : PySem.W.Frag} {g : List D → M D} {f : En → M (List D)} {σ : L2.St} {H : Hp} {Q : VK} (h : tD K E (eCall g f) σ H Q) : tCB (rDs K E g) (tDs K E f) σ H Q := by
  obtain ⟨μ, ν, δ, st, S, o⟩ := h
  exact ⟨μ, ν, δ, st, S, o.fst.imp fun xs st1 μ1 H1 e1 s1 o1 vs hv => ⟨μ1, ν, xs, st1, s1, hv, o1⟩⟩
theorem de_cb {x : Str} {p : Pos} {e : Expr} {es : List Expr} {id : String} {g : List D → M D} {fa : En → M (List D)} (hc : CallR X (.builtin id) (rDs X.K E g)) (hm : X.mg x = none) (ha : DA X E (e :: es) fa) (hg : Gl X x := by rfl) (hv : bootBuiltins x = some (.builtin id) := by decide +kernel)
    (hn : x ≠ "__name__" := by decide) (hdb : (x == ("__debug__" : Str)) = false := by decide)
    (he : starEach (e :: es) X.env = (false, eval e X.env) :: starEach es X.env := by rfl) (hpl : (backTo pos (starEach es X.env)).any (·.1) = false := by rfl) : DE X E (.Call (.Name x p) (e :: es) [] pos) (eCall g fa) :=
  pe_imp (pe_callB hc hg hm hv ha hn hdb he hpl) fun σ H Q h => tDs_cb h
theorem de_ct {x : Str} {p : Pos} {e : Expr} {es : List Expr} {T : String} {g : List D → M D} {fa : En → M (List D)} (hc : CallR X (.type T) (rDs X.K E g)) (hm : X.mg x = none) (ha : DA X E (e :: es) fa) (hg : Gl X x := by rfl) (hv : bootBuiltins x = some (.type T) := by decide +kernel)
    (hn : x ≠ "__name__" := by decide) (hdb : (x == ("__debug__" : Str)) = false := by decide)
    (he : starEach (e :: es) X.env = (false, eval e X.env) :: starEach es X.env := by rfl) (hpl : (backTo pos (starEach es X.env)).any (·.1) = false := by rfl) : DE X E (.Call (.Name x p) (e :: es) [] pos) (eCall g fa) :=
  pe_imp (pe_callTy hc hg hm hv ha hn hdb he hpl) fun σ H Q h => tDs_cb h

/-! ### isinstance -/
/-- the types that a written second argument names -/
inductive Ty where | int | bool | str | list | tuple | own (C : Addr)
/-- the answers; cls tells of an own class and an own class -/
def isTy : D → Ty → Option Bool
  | .int _, .int => some true
  | .bl _, .int => some true
  | .bl _, .bool => some true
  | .str _, .str => some true
  | .lst _, .list => some true
  | .fl _, .list => some true
  | .tup _, .tuple => some true
  | .ins C _, .own C' => some (C == C')
  | .obj _, _ => none
  | .exc _ _, _ => none
  | .fn _, _ => none
  | _, _ => some false
end
end DL
end
section
namespace DL
open PySem PySem.Spec PyProof.Rows L2

/-! ### the type of data -/
abbrev Tg := Sum String Addr
def tgV : Tg → Value
  | .inl t => .type t
  | .inr C => .ref C
def tagD (st : Sto) : D → Option Tg
  | .non => some (.inl "NoneType")
  | .bl _ => some (.inl "bool")
  | .int _ => some (.inl "int")
  | .str _ => some (.inl "str")
  | .lst _ => some (.inl "list")
  | .tup _ => some (.inl "tuple")
  | .dct _ => some (.inl "dict")
  | .ins C _ => some (.inr C)
  | .obj i => match st[i]? with
    | some (.lst _) => some (.inl "list")
    | some (.ins C _) => some (.inr C)
    | _ => none
  | _ => none
/-- what is asked of an own class whose instances have their type read -/
structure InsT (K : PySem.W.Frag) (C : Addr) : Prop where
  cl : Cls K C
  ha : PySem.W.findIn K (.ref C) "__class__" = some (some (.builtin "object.__class__"))
  hn : PySem.W.specialIn K (.builtin "object.__class__") "__get__" = some (some (.builtin "getset_descriptor.__get__"))
  htk : PySem.W.takesIn K (.builtin "object.__class__") = some true
  hm : PySem.W.mroIn K C (.type "object") = some true
theorem tag_rep {K : PySem.W.Frag} {μ : Mu} {ν : List Addr} {H : Hp} {st : Sto} (S : StoOk K μ ν H st) {d : D} {v : V} {t : Tg} (h : Rep K μ (hid μ ν H) d v) (e : tagD st d = some t) (hI : ∀ C, t = .inr C → InsT K C) : TyX K H v (tgV t) := by
  unfold tagD at e
  split at e
  · cases e; rw [rep_non h]; exact .base .non
  · cases e; rw [rep_bl h]; exact .base (.bl _)
  · cases e; rw [rep_int h]; exact .base (.int _)
  · cases e; rw [rep_str h]; exact .base (.str _)
  · cases e
    unfold Rep at h
    obtain ⟨a, vs, rfl, e2, _⟩ := h
    exact .base (.lst (hid_some e2).1)
  · cases e
    unfold Rep at h
    obtain ⟨a, vs, rfl, e2, _⟩ := h
    rcases e2 with (e2 | ⟨o, e2⟩) | ⟨o, its, n, hk, hc, hd, hz, hv⟩
    · exact .base (.tup (hid_some e2).1)
    · exact .fTuple (hid_some e2).1
    · exact .kTuple hk hc
  · cases e
    unfold Rep at h
    obtain ⟨a, ws, rfl, e2, _⟩ := h
    rcases e2 with e2 | ⟨o, e2⟩
    · exact .base (.dK (hid_some e2).1)
    · exact .fDict (hid_some e2).1
  · cases e
    unfold Rep at h
    obtain ⟨a, dx, gs, rfl, e2, _⟩ := h
    have i := hI _ rfl
    exact .base (.ins (hid_some e2).1 i.cl i.ha i.hn i.htk i.hm)
  · split at e
    · cases e
      rename_i hc
      obtain ⟨⟨a, vs, h1, h2, _⟩, hv⟩ := S.obj h hc
      rw [hv a h1]
      exact .base (.lst h2)
    · cases e
      rename_i hc
      obtain ⟨⟨a, dx, gs, h1, h2, _⟩, hv⟩ := S.obj h hc
      rw [hv a h1]
      have i := hI _ rfl
      exact .base (.ins h2 i.cl i.ha i.hn i.htk i.hm)
    · cases e
  · cases e

/-! ### isinstance -/
def isiD (an : Tg → Option Bool) (d : D) : M D := fun st => match tagD st d with
  | some t => match an t with
    | some b => some (.ok (.bl b) st)
    | none => none
  | none => none
def eIsi (an : Tg → Option Bool) (f : EF) : EF := fun δ => (f δ).bind (isiD an)
section
variable {X : Cx} {E : XK} {pos : Pos} {an : Tg → Option Bool} {fe : EF} {e : Expr} {p : Pos}
/-- isinstance(e, T): c the class as a value -/
theorem de_isi {T : Expr} {c : V} {u : Value} (hm : X.mg "isinstance" = none) (he : DE X E e fe) (hT : PE X T (tC c)) (hc : ClsV c u) (han : ∀ t b, an t = some b → (∀ C, t = .inr C → InsT X.K C) ∧ PySem.W.kitOne X.K (tgV t) u = some b) (hg : Gl X "isinstance" := by rfl)
    (hs1 : starEach [e, T] X.env = (false, eval e X.env) :: starEach [T] X.env := by rfl) (hs2 : starEach [T] X.env = (false, eval T X.env) :: starEach [] X.env := by rfl) (hpl : (backTo pos (starEach [T] X.env)).any (·.1) = false := by rfl) :
    DE X E (.Call (.Name "isinstance" p) [e, T] [] pos) (eIsi an fe) :=
  pe_imp (pe_callB call_isi hg hm (by decide +kernel) (pa_cons he (pa_cons hT pa_nil hs2) hs1) (by decide) (by decide) hs1 hpl) fun σ H Q ⟨μ, ν, δ, st, S, o⟩ => by
    refine ⟨μ, ν, δ, st, S, o.fst.imp fun d st1 μ1 H1 e1 s1 o1 v hv => ?_⟩
    unfold isiD at o1
    split at o1
    · rename_i t ht
      split at o1
      · rename_i b hb
        obtain ⟨h1, h2⟩ := han t b hb
        exact ⟨v, c, tgV t, u, b, rfl, hc, tag_rep s1 hv ht h1, h2, o1.now s1 _ to_bl⟩
      · exact o1.elim
    · exact o1.elim
/-- isinstance(e, (T, ..)) -/
theorem de_isiT {Ts : List Expr} {cs : List V} {us : List Value} {tT : TA} {k : Nat} {p2 : Pos} (hm : X.mg "isinstance" = none) (he : DE X E e fe) (hT : PA X Ts tT) (ht : ∀ σ H Q, Q cs H → tT σ H Q) (hc : Paired ClsV cs us) (hl : cs.length ≤ sizeLine)
    (han : ∀ t b, an t = some b → (∀ C, t = .inr C → InsT X.K C) ∧ PySem.W.kitAny X.K (tgV t) us = some b) (hg : Gl X "isinstance" := by rfl)
    (hs1 : starEach [e, .Tuple Ts k p2] X.env = (false, eval e X.env) :: starEach [.Tuple Ts k p2] X.env := by rfl) (hs2 : starEach [.Tuple Ts k p2] X.env = (false, eval (.Tuple Ts k p2) X.env) :: starEach [] X.env := by rfl) (hpl : (backTo pos (starEach [.Tuple Ts k p2] X.env)).any (·.1) = false := by rfl) :
    DE X E (.Call (.Name "isinstance" p) [e, .Tuple Ts k p2] [] pos) (eIsi an fe) :=
  pe_imp (pe_callB call_isiT hg hm (by decide +kernel) (pa_cons he (pa_cons (pe_tup hT) pa_nil hs2) hs1) (by decide) (by decide) hs1 hpl) fun σ H Q ⟨μ, ν, δ, st, S, o⟩ => by
    refine ⟨μ, ν, δ, st, S, o.fst.imp fun d st1 μ1 H1 e1 s1 o1 v hv => ?_⟩
    unfold isiD at o1
    split at o1
    · rename_i t htg
      split at o1
      · rename_i b hb
        obtain ⟨h1, h2⟩ := han t b hb
        refine ht σ H1 _ ⟨hl, fun q hq => ?_⟩
        have s2 := s1.new (o := .tup cs) hq
        have e2 := s1.ext_new (o := .tup cs) hq
        exact ⟨v, q, cs, tgV t, us, b, rfl, upd_same, hc, tag_rep s2 (hv.ext e2) htg h1, h2, o1.go rfl e2 s2 _ to_bl⟩
      · exact o1.elim
    · exact o1.elim
/-- the answers for one built-in class: own classes are none of it -/
def anB (T : String) (cs : List Addr) : Tg → Option Bool
  | .inl t => kitB t T
  | .inr C => if C ∈ cs then some false else none
theorem anB_ok {K : PySem.W.Frag} {T : String} {cs : List Addr} (h : ∀ C ∈ cs, InsT K C ∧ PySem.W.kitOne K (.ref C) (.type T) = some false) : ∀ t b, anB T cs t = some b → (∀ C, t = .inr C → InsT K C) ∧ PySem.W.kitOne K (tgV t) (.type T) = some b := by
  intro t b e
  cases t with
  | inl t => exact ⟨fun C z => (nomatch z), kit_ty e⟩
  | inr C =>
    have e : (if C ∈ cs then some false else none) = some b := e
    split at e
    · rename_i hm
      cases e
      exact ⟨fun C' z => by cases z; exact (h C hm).1, (h C hm).2⟩
    · cases e
def anB2 (T T2 : String) (cs : List Addr) : Tg → Option Bool
  | .inl t => match kitB t T with
    | some true => some true
    | some false => kitB t T2
    | none => none
  | .inr C => if C ∈ cs then some false else none
theorem anB2_ok {K : PySem.W.Frag} {T T2 : String} {cs : List Addr} (h : ∀ C ∈ cs, InsT K C ∧ PySem.W.kitOne K (.ref C) (.type T) = some false ∧ PySem.W.kitOne K (.ref C) (.type T2) = some false) :
    ∀ t b, anB2 T T2 cs t = some b → (∀ C, t = .inr C → InsT K C) ∧ PySem.W.kitAny K (tgV t) [.type T, .type T2] = some b := by
  intro t b e
  cases t with
  | inl t =>
    refine ⟨fun C z => (nomatch z), ?_⟩
    have e : (match kitB t T with | some true => some true | some false => kitB t T2 | none => none) = some b := e
    unfold PySem.W.kitAny
    show (match PySem.W.kitOne K (.type t) (.type T) with | some true => some true | some false => PySem.W.kitAny K (.type t) [.type T2] | none => none) = some b
    cases q : kitB t T with
    | none => rw [q] at e; cases e
    | some k =>
      rw [q] at e
      rw [kit_ty q]
      cases k with
      | true => exact e
      | false =>
        show PySem.W.kitAny K (.type t) [.type T2] = some b
        unfold PySem.W.kitAny
        rw [kit_ty (show kitB t T2 = some b from e)]
        cases b <;> rfl
  | inr C =>
    have e : (if C ∈ cs then some false else none) = some b := e
    split at e
    · rename_i hm
      cases e
      refine ⟨fun C' z => by cases z; exact (h C hm).1, ?_⟩
      unfold PySem.W.kitAny
      show (match PySem.W.kitOne K (.ref C) (.type T) with | some true => some true | some false => PySem.W.kitAny K (.ref C) [.type T2] | none => none) = some false
      rw [(h C hm).2.1]
      show PySem.W.kitAny K (.ref C) [.type T2] = some false
      unfold PySem.W.kitAny
      rw [(h C hm).2.2]
      rfl
    · cases e
/-- the answers for an own class at C0 -/
def anO (C0 : Addr) (cs : List Addr) : Tg → Option Bool
  | .inl t => if t ∈ ["NoneType", "bool", "int", "str", "list", "tuple", "dict"] then some false else none
  | .inr C => if C = C0 then some true else if C ∈ cs then some false else none
theorem anO_ok {K : PySem.W.Frag} {C0 : Addr} {cs : List Addr} (h0 : InsT K C0) (hb : ∀ t ∈ ["NoneType", "bool", "int", "str", "list", "tuple", "dict"], PySem.W.kitOne K (.type t) (.ref C0) = some false)
    (h : ∀ C ∈ cs, InsT K C ∧ PySem.W.kitOne K (.ref C) (.ref C0) = some false) : ∀ t b, anO C0 cs t = some b → (∀ C, t = .inr C → InsT K C) ∧ PySem.W.kitOne K (tgV t) (.ref C0) = some b := by
  intro t b e
  cases t with
  | inl t =>
    have e : (if t ∈ ["NoneType", "bool", "int", "str", "list", "tuple", "dict"] then some false else none) = some b := e
    split at e
    · rename_i hm
      cases e
      exact ⟨fun C z => (nomatch z), hb t hm⟩
    · cases e
  | inr C =>
    have e : (if C = C0 then some true else if C ∈ cs then some false else none) = some b := e
    split at e
    · rename_i hc
      have e : true = b := Option.some.inj e
      subst e
      subst hc
      refine ⟨fun C' z => by cases z; exact h0, ?_⟩
      show PySem.W.kitOne K (.ref C) (.ref C) = some true
      unfold PySem.W.kitOne
      rw [if_pos (by simp)]
    · split at e
      · rename_i hm
        cases e
        exact ⟨fun C' z => by cases z; exact (h C hm).1, (h C hm).2⟩
      · cases e

/-! ### the operators of an own class -/
theorem run_at {A : Around} {CX : CXT} {k : Nat} {f : Addr} {fd : FuncData} {ps : List Str} {sp : Sp} {pins : List (Addr × Obj)} {σ : L2.St} {H : Hp} {s : Shared} {Q : VK} {us : List Value} {vs : List V} (F : FnOk X.prog X.w X.K X.mg X.base CX k f fd ps sp) (hr : Room k A) (hf : A.frames = X.A.frames) (hb : Binds X.K fd ps []) (hx : Passes CX X E)
    (I : Inv X pins σ H s) (r : Vals vs us) (h : sp vs H Q E) : wpAny (model X.prog X.w) A (call (.ref f) us) (EP X pins σ Q) X.xe s := by
  have hl : us.length = ps.length := by rw [← r.length]; exact F.len _ _ _ _ h
  have e0 : Env0 X.prog X.w X.K X.mg X.base A X.stack s H := by
    have e := I.env0
    exact ⟨by rw [hf]; exact e.frames, e.mod, e.bs, e.bsz, e.funs, e.frf, e.hok, e.bare⟩
  refine wpAny_call (codeAny_mono (F.run A X.stack s H ⟨us, []⟩ us vs Q E hr e0 (by
    have := hb s us I.kIn (by rw [List.append_nil]; exact hl)
    rw [List.append_nil] at this
    exact this) r h) fun r s' hq => ?_)
  cases r with
  | error e => exact hx pins σ H s e s' I hq
  | ok fl =>
    cases fl with
    | ret u => exact I.after hq
    | next => exact False.elim hq
    | brk => exact False.elim hq
    | cont => exact False.elim hq
/-- o[i] of an own class -/
def ownM (C : Addr) (g : List D → M D) (o : D) (xs : List D) : M D := (ofC' C o).bind fun _ => g (o :: xs)
theorem own_rep {K : PySem.W.Frag} {μ : Mu} {ν : List Addr} {H : Hp} {st : Sto} {C : Addr} {g : List D → M D} {o : D} {xs : List D} {v : V} {k : D → Sto → Mu → Hp → Prop} (S : StoOk K μ ν H st) (h : Rep K μ (hid μ ν H) o v) (q : Out K ν E μ H (ownM C g o xs st) k) :
    ∃ a dx gs, v = .ref a ∧ H a = some (.ins C dx gs) ∧ Out K ν E μ H (g (o :: xs) st) k := by
  have q1 := Out.fst (m := ofC' C o) (f := fun _ => g (o :: xs)) q
  unfold ofC' at q1
  split at q1
  · rename_i C' fs hI
    split at q1
    · rename_i hc
      subst hc
      obtain ⟨a, dx, gs, rfl, ha, _⟩ := asI_rep S h hI
      exact ⟨a, dx, gs, rfl, ha, q1.now S⟩
    · exact q1.elim
  · exact q1.elim
section
variable {k : Nat} {f C : Addr} {fd : FuncData} {ps : List Str} {g : List D → M D}
def eSub (C : Addr) (g : List D → M D) (fo fi : EF) : EF := eOp2 (fun o i => ownM C g o [i]) fo fi
theorem de_subO {o i : Expr} {fo fi : EF} (ho : DE X E o fo) (hi : DE X E i fi) (hs : PySem.W.findIn X.K (.ref C) "__getitem__" = some (some (.ref f))) (hfn : PySem.W.fnIn X.K f = true) (hf : PySem.W.isFn X.K (.ref f) = true)
    (F : FnOk X.prog X.w X.K X.mg X.base (L2.CX X.prog X.w) k f fd ps (spD X.K g)) (hr : Room (k + 1) X.A) (hb : Binds X.K fd ps []) (hx : Passes (L2.CX X.prog X.w) X E)
    (hsl : ∀ x u, subscripted i true (.ref x) u = runValue (.builtin "lifetime.subscript" ⟨[.ref x, u], []⟩) := by intro _ _; with_unfolding_all rfl) : DE X E (.Subscript o i pos) (eSub C g fo fi) := by
  refine ⟨fun pins s σ H Q I h => ?_⟩
  have h' := tD_op2 h
  refine Subscript_ (binT ho hi I h' fun v u s2 x y H2 I2 rx ry q => ?_)
  obtain ⟨μ, ν, dx, dy, st, S, hx1, hy1, o1⟩ := q
  obtain ⟨a, dd, gs, rfl, ha, o2⟩ := own_rep S hx1 o1
  obtain rfl : v = Value.ref a := rx
  obtain ⟨mA, J, _⟩ := ins_get I2.hok ha
  obtain ⟨od, J, _⟩ := J.look
  obtain ⟨m, hF⟩ := I2.fr
  refine PySem.W.sub_K hF I2.ok.mod.kin J hs hfn hf ?_ (hsl a u)
  exact run_at (vs := [.ref a, y]) F hr.in1 rfl hb hx I2 (.cons rfl (.cons ry .nil)) ⟨μ, ν, [dx, dy], st, S, .cons hx1 (.one hy1), o2⟩
/-- x in o, x not in o -/
def inOD (C : Addr) (g : List D → M D) (x o : D) : M D := (ownM C g o [x]).bind fun d => (bD d).bind fun b => M.pure (.bl b)
def ninOD (C : Addr) (g : List D → M D) (x o : D) : M D := (ownM C g o [x]).bind fun d => (bD d).bind fun b => M.pure (.bl (!b))
theorem od_inO (hs : PySem.W.findIn X.K (.ref C) "__contains__" = some (some (.ref f))) (hf : PySem.W.isFn X.K (.ref f) = true)
    (F : FnOk X.prog X.w X.K X.mg X.base (L2.CX X.prog X.w) k f fd ps (spD X.K g)) (hr : Room k X.A) (hb : Binds X.K fd ps []) (hx : Passes (L2.CX X.prog X.w) X E) : OpR X (compareOp .In) (rD2 X.K E (inOD C g)) := by
  intro pins s σ H x y v u Q I rx ry h
  obtain ⟨μ, ν, dx, dy, st, S, hx1, hy1, o1⟩ := h
  obtain ⟨a, dd, gs, rfl, ha, o2⟩ := own_rep S hy1 (Out.fst (m := ownM C g dy [dx]) (f := fun d => (bD d).bind fun b => M.pure (D.bl b)) o1)
  obtain rfl : u = Value.ref a := ry
  obtain ⟨mA, J, _⟩ := ins_get I.hok ha
  obtain ⟨od, J, _⟩ := J.look
  obtain ⟨m, hF⟩ := I.fr
  refine PySem.W.in_K hF I.ok.mod.kin J hs hf (thn (run_at (vs := [.ref a, x]) (Q := fun z H' => ∃ b, z = .bl b ∧ Q (.bl b) H') F hr rfl hb hx I (.cons rfl (.cons rx .nil)) ⟨μ, ν, [dy, dx], st, S, .cons hy1 (.one hx1), o2.imp fun d st1 μ1 H1 e1 s1 o3 w hw => ?_⟩) fun r s' q => ?_)
  · obtain ⟨b, rfl, o4⟩ := bD_rep s1 hw o3.fst
    exact ⟨b, rfl, o4.ret s1 _ to_bl⟩
  · obtain ⟨z, H', I', rz, b, rfl, q⟩ := q
    cases rz
    exact wpAny_truthy_bool ⟨.bl b, H', I', rfl, q⟩
theorem od_ninO (hs : PySem.W.findIn X.K (.ref C) "__contains__" = some (some (.ref f))) (hf : PySem.W.isFn X.K (.ref f) = true)
    (F : FnOk X.prog X.w X.K X.mg X.base (L2.CX X.prog X.w) k f fd ps (spD X.K g)) (hr : Room k X.A) (hb : Binds X.K fd ps []) (hx : Passes (L2.CX X.prog X.w) X E) : OpR X (compareOp .NotIn) (rD2 X.K E (ninOD C g)) := by
  intro pins s σ H x y v u Q I rx ry h
  obtain ⟨μ, ν, dx, dy, st, S, hx1, hy1, o1⟩ := h
  obtain ⟨a, dd, gs, rfl, ha, o2⟩ := own_rep S hy1 (Out.fst (m := ownM C g dy [dx]) (f := fun d => (bD d).bind fun b => M.pure (D.bl (!b))) o1)
  obtain rfl : u = Value.ref a := ry
  obtain ⟨mA, J, _⟩ := ins_get I.hok ha
  obtain ⟨od, J, _⟩ := J.look
  obtain ⟨m, hF⟩ := I.fr
  refine PySem.W.notIn_K hF I.ok.mod.kin J hs hf (thn (run_at (vs := [.ref a, x]) (Q := fun z H' => ∃ b, z = .bl b ∧ Q (.bl (!b)) H') F hr rfl hb hx I (.cons rfl (.cons rx .nil)) ⟨μ, ν, [dy, dx], st, S, .cons hy1 (.one hx1), o2.imp fun d st1 μ1 H1 e1 s1 o3 w hw => ?_⟩) fun r s' q => ?_)
  · obtain ⟨b, rfl, o4⟩ := bD_rep s1 hw o3.fst
    exact ⟨b, rfl, o4.ret s1 _ to_bl⟩
  · obtain ⟨z, H', I', rz, b, rfl, q⟩ := q
    cases rz
    exact wpAny_truthy_bool ⟨.bl (!b), H', I', rfl, q⟩
/-- o == x by the class's own __eq__ -/
def eqOD (C : Addr) (g : List D → M D) (ok : Tg → Bool) (o x : D) : M D := fun st => match tagD st x with
  | some t => if ok t = true then ((ownM C g o [x]).bind fun d => (bD d).bind fun b => M.pure (.bl b)) st else none
  | none => none
theorem od_eqO {ok : Tg → Bool} (hu : X.A.units < cLine) (hs : PySem.W.findIn X.K (.ref C) "__eq__" = some (some (.ref f))) (hf : PySem.W.isFn X.K (.ref f) = true) (hok : ∀ t, ok t = true → (∀ C, t = .inr C → InsT X.K C) ∧ PySem.W.notFirst X.K C (tgV t) = true)
    (F : FnOk X.prog X.w X.K X.mg X.base (L2.CX X.prog X.w) k f fd ps (spD X.K g)) (hr : Room k X.A) (hb : Binds X.K fd ps []) (hx : Passes (L2.CX X.prog X.w) X E) : OpR X (compareOp .Eq) (rD2 X.K E (eqOD C g ok)) := by
  intro pins s σ H x y v u Q I rx ry h
  obtain ⟨μ, ν, dx, dy, st, S, hx1, hy1, o1⟩ := h
  unfold eqOD at o1
  split at o1
  case h_2 => exact o1.elim
  rename_i t ht
  split at o1
  case isFalse => exact o1.elim
  rename_i hkt
  obtain ⟨hI, hnf⟩ := hok t hkt
  obtain ⟨a, dd, gs, rfl, ha, o2⟩ := own_rep S hx1 (Out.fst (m := ownM C g dx [dy]) (f := fun d => (bD d).bind fun b => M.pure (D.bl b)) o1)
  obtain rfl : v = Value.ref a := rx
  obtain ⟨mA, J, _⟩ := ins_get I.hok ha
  obtain ⟨od, J, _⟩ := J.look
  obtain ⟨m, hF⟩ := I.fr
  obtain ⟨P, Z, pp, hxx⟩ := kit_of I ry (tag_rep S hy1 ht hI)
  show wpAny (model X.prog X.w) X.A (richCompare .Eq (.ref a) u) (EP X pins σ Q) X.xe s
  refine PySem.W.cmp_K (op := .Eq) (tb := tgV t) hu hF I.ok.mod.kin J (Z.ty _ _ I.kIn pp) hnf hs hf (thn (run_at (vs := [.ref a, y]) (Q := fun z H' => ∃ b, z = .bl b ∧ Q (.bl b) H') F hr rfl hb hx I (.cons rfl (.cons ry .nil)) ⟨μ, ν, [dx, dy], st, S, .cons hx1 (.one hy1), o2.imp fun d st1 μ1 H1 e1 s1 o3 w hw => ?_⟩) fun r s' q => ?_)
  · obtain ⟨b, rfl, o4⟩ := bD_rep s1 hw o3.fst
    exact ⟨b, rfl, o4.ret s1 _ to_bl⟩
  · obtain ⟨z, H', I', rz, b, rfl, q⟩ := q
    cases rz
    exact ⟨.bl b, H', I', rfl, q⟩
end
end
end DL
end
section
/-! enumerate of a list; what is gone over -/
namespace DL
open PySem PySem.Spec PyProof.Rows L2
/-! ### as data -/
section
variable {K : PySem.W.Frag} {μ : Mu} {ν : List Addr} {H : Hp} {st : Sto}
theorem enumD_len {xs : List D} : (enumD xs).length = xs.length := by unfold enumD; rw [List.length_map, List.length_zipIdx]
theorem enumD_get {xs : List D} {i : Nat} {d : D} (h : xs[i]? = some d) : (enumD xs)[i]? = some (.tup [.int (i : Nat), d]) := by
  unfold enumD
  rw [List.getElem?_map, List.getElem?_zipIdx, h]
  simp
theorem rep_pair {ν' : List Addr} {μ' : Mu} {H' : Hp} {x : V} {d : D} {T : Addr} {i : Nat} {st' : Sto} (s : StoOk K μ' ν' H' st') (hx : Rep K μ' (hid μ' ν' H') d x) (hT : H' T = none) :
    Rep K μ' (hid μ' ν' (upd H' T (.tup [.int (i : Nat), x]))) (.tup [.int (i : Nat), d]) (.ref T) := rep_tup s hT (by show 2 ≤ sizeLine; decide) (.cons to_int (.one hx))
theorem gives_enum {a : Addr} {vs : List V} {xs : List D} (h : SqL K (hid μ ν H) a vs) (r : Reps K μ (hid μ ν H) xs vs) : Gives K ν μ H (Ite K a) (enumD xs) where
  go := fun i ν' μ' H' e hi => by
    rw [enumD_len] at hi
    obtain ⟨v, h1, h2⟩ := r.get (List.getElem?_eq_getElem hi)
    exact ⟨vs, v, seen_sqL h e, h1⟩
  stop := fun ν' μ' H' e => ⟨vs, seen_sqL h e, by rw [enumD_len, r.len]; exact Nat.le_refl _⟩
  yld := fun i ν' μ' H' st x H2 e s hi ⟨T, v, e1, nT, e2, q⟩ => by
    subst e1; subst e2
    obtain ⟨d, h1, h2⟩ := r.get' (q vs (seen_sqL h e))
    exact ⟨_, enumD_get h1, s.ext_new nT, s.new nT, rep_pair s (Rep.mono e.mu e.same d v h2) nT⟩
theorem zip_get {xs ys : List D} {i : Nat} {d e : D} (h : xs[i]? = some d) (g : ys[i]? = some e) : ((xs.zip ys).map fun p => D.tup [p.1, p.2])[i]? = some (.tup [d, e]) := by
  rw [List.getElem?_map, List.getElem?_zip_eq_some (z := (d, e)) |>.mpr ⟨h, g⟩]
  rfl
end
section
variable {X : Cx} {E : XK}
/-- the iterated thing may be a list or a tuple -/
theorem pi_or {tg it : Expr} {t t' : TI} (h : PI X tg it t) (h' : PI X tg it t') : PI X tg it (fun σ H R => t σ H R ∨ t' σ H R) := ⟨fun pins s σ H R I q => q.elim (h.run pins s σ H R I) (h'.run pins s σ H R I)⟩
def enD (ds : List D) : M (List D) := fun st => match ds with
  | [.lst xs] => some (.ok (enumD xs) st)
  | [.fl xs] => some (.ok (enumD xs) st)
  | _ => none
def iEn (f : En → M (List D)) : ItF := fun δ => (f δ).bind enD
theorem di_enum {e : Expr} {f : En → M (List D)} {p pos tpos : Pos} {elts : List Expr} {kk : Nat} (hg : Gl X "enumerate") (hm : X.mg "enumerate" = none) (ha : DA X E [e] f) (hs : starEach [e] X.env = [(false, eval e X.env)] := by rfl) :
    DI X E (.Tuple elts kk tpos) (.Call (.Name "enumerate" p) [e] [] pos) (iEn f) := pi_imp (pi_enum hg hm ha hs) fun σ H Q ⟨μ, ν, δ, st, S, o⟩ => by
  refine ⟨μ, ν, δ, st, S, o.fst.imp fun ds st1 μ1 H1 e1 s1 o1 ws hv => ?_⟩
  unfold enD at o1
  split at o1
  · obtain ⟨v, rfl, h⟩ := reps_one hv
    unfold Rep at h
    obtain ⟨a, us, rfl, h2, h3, h4⟩ := h
    exact ⟨a, us, rfl, .inl (.inl (hid_some h2).1), o1.now s1 _ (gives_enum (.inl (.inl h2)) h4)⟩
  · obtain ⟨v, rfl, h⟩ := reps_one hv
    unfold Rep at h
    obtain ⟨a, us, rfl, h2, h3, h4⟩ := h
    exact ⟨a, us, rfl, hid_sub.seq h2, o1.now s1 _ (gives_enum h2 h4)⟩
  · exact o1.elim
/-- for x in e, e a list or a tuple -/
def iSq (f : EF) : ItF := fun δ => (f δ).bind seqD
theorem di_seq {tg e : Expr} {f : EF} (h : DE X E e f) : DI X E tg e (iSq f) := pi_imp (pi_or (pi_list h) (pi_tup h)) fun σ H Q ⟨μ, ν, δ, st, S, o⟩ => by
  have o1 := o.fst
  by_cases hq : ∃ xs st', f δ st = some (.ok (.tup xs) st')
  · obtain ⟨xs0, st0, hq⟩ := hq
    refine .inr ⟨μ, ν, δ, st, S, ?_⟩
    rw [hq] at o1 ⊢
    intro μ' H' e1 s1 v hv
    have o2 := o1 μ' H' e1 s1
    unfold Rep at hv
    obtain ⟨a, ws, rfl, h2, h3, h4⟩ := hv
    exact ⟨a, rfl, ⟨ws, sqT_same hid_sub h2⟩, o2.go rfl .refl s1 _ (gives_tup h2 h4)⟩
  · refine .inl ⟨μ, ν, δ, st, S, ?_⟩
    cases e : f δ st with
    | none => rw [e] at o1; exact o1
    | some r =>
      rw [e] at o1
      cases r with
      | er C fs st' => exact o1
      | ok d st' =>
        intro μ' H' e1 s1 v hv
        have o2 := o1 μ' H' e1 s1
        unfold seqD at o2
        dsimp only at o2
        split at o2
        · unfold Rep at hv
          obtain ⟨a, ws, rfl, h2, h3, h4⟩ := hv
          exact ⟨a, rfl, ⟨ws, .inl (.inl (hid_some h2).1)⟩, o2.now s1 _ (gives_list (.inl (.inl h2)) h4)⟩
        · unfold Rep at hv
          obtain ⟨a, ws, rfl, h2, h3, h4⟩ := hv
          exact ⟨a, rfl, ⟨ws, hid_sub.seq h2⟩, o2.now s1 _ (gives_list h2 h4)⟩
        · exact absurd ⟨_, _, e⟩ hq
        · exact o2.elim
end
end DL
end
section
namespace DL
open PySem PySem.Spec PyProof.Rows L2
section
variable {X : Cx} {E : XK} {pos : Pos}
/-! ### a choice between two rules -/
theorem de_or2 {e : Expr} {f f1 f2 : EF} (h1 : DE X E e f1) (h2 : DE X E e f2) (h : ∀ δ st, f δ st = f1 δ st ∨ f δ st = f2 δ st) : DE X E e f := ⟨fun pins s σ H Q I ⟨μ, ν, δ, st, S, o⟩ => by
  rcases h δ st with q | q
  · rw [q] at o; exact h1.run pins s σ H Q I ⟨μ, ν, δ, st, S, o⟩
  · rw [q] at o; exact h2.run pins s σ H Q I ⟨μ, ν, δ, st, S, o⟩⟩
theorem od_or2 {f : Value → Value → Sem Value} {r r1 r2 : D → D → M D} (h1 : OpR X f (rD2 X.K E r1)) (h2 : OpR X f (rD2 X.K E r2)) (h : ∀ x y st, r x y st = r1 x y st ∨ r x y st = r2 x y st) : OpR X f (rD2 X.K E r) := fun pins s σ H x y v u Q I rx ry ⟨μ, ν, dx, dy, st, S, hx, hy, o⟩ => by
  rcases h dx dy st with q | q
  · rw [q] at o; exact h1 pins s σ H x y v u Q I rx ry ⟨μ, ν, dx, dy, st, S, hx, hy, o⟩
  · rw [q] at o; exact h2 pins s σ H x y v u Q I rx ry ⟨μ, ν, dx, dy, st, S, hx, hy, o⟩
/-! ### slices -/
def eNoP : En → M (Option Int) := fun _ => M.pure none
def intO (d : D) : M (Option Int) := fun st => match d with
  | .int i => some (.ok (some i) st)
  | _ => none
def eP (f : EF) : En → M (Option Int) := fun δ => (f δ).bind intO
def tDo (K : PySem.W.Frag) (E : XK) (f : En → M (Option Int)) : TO := fun σ H Q => ∃ μ ν δ st, Sit K μ ν δ st σ H ∧ Out K ν E μ H (f δ st) fun b st' μ' H' => Q b H'
abbrev DP (X : Cx) (E : XK) (e : Option Expr) (f : En → M (Option Int)) : Prop := PO X e (tDo X.K E f)
theorem po_imp {e : Option Expr} {t t' : TO} (h : PO X e t) (i : ∀ σ H Q, t' σ H Q → t σ H Q) : PO X e t' := ⟨fun pins s σ H Q I q => h.run pins s σ H Q I (i _ _ _ q)⟩
theorem dp_none : DP X E none eNoP := po_imp po_none fun σ H Q ⟨μ, ν, δ, st, S, o⟩ => o.ret S.sto
theorem dp_some {e : Expr} {f : EF} (h : DE X E e f) : DP X E (some e) (eP f) := po_imp (po_some h) fun σ H Q ⟨μ, ν, δ, st, S, o⟩ => by
  refine ⟨μ, ν, δ, st, S, o.fst.imp fun d st1 μ1 H1 e1 s1 o1 v hv => ?_⟩
  unfold intO at o1
  split at o1
  · exact ⟨_, rep_int hv, o1.now s1⟩
  · exact o1.elim
def cutD (xs : List D) (lo hi : Option Int) : List D := (xs.drop (HT.sIx xs.length 0 lo)).take (HT.sIx xs.length xs.length hi - HT.sIx xs.length 0 lo)
theorem cut_rep {K : PySem.W.Frag} {μ : Mu} {G : Hp} {xs : List D} {vs : List V} {lo hi : Option Int} (h : Reps K μ G xs vs) : Reps K μ G (cutD xs lo hi) (cutV vs lo hi) := by
  unfold cutD cutV
  rw [← h.len]
  exact (h.drop _).take _
theorem cut_len {xs : List D} {lo hi : Option Int} : (cutD xs lo hi).length ≤ xs.length := by
  unfold cutD
  rw [List.length_take, List.length_drop]
  omega
def slD (x : D) (lo hi : Option Int) : M D := fun st => match asL st x with
  | some xs => some (.ok (.lst (cutD xs lo hi)) st)
  | none => none
def slN (x : D) (lo hi : Option Int) : M D := fun st => match asL st x with
  | some xs => some (.ok (.obj st.length) (st ++ [.lst (cutD xs lo hi)]))
  | none => none
def eSlice (r : D → Option Int → Option Int → M D) (fe : EF) (fl fh : En → M (Option Int)) : EF := fun δ => (fe δ).bind fun x => (fl δ).bind fun l => (fh δ).bind fun h => r x l h
theorem tD_sl {K : PySem.W.Frag} {r : D → Option Int → Option Int → M D} {t : V → Option Int → Option Int → Hp → VK → Prop} {fe : EF} {fl fh : En → M (Option Int)} {σ : L2.St} {H : Hp} {Q : VK}
    (ht : ∀ {μ ν d st v H lo hi} {Q : VK}, StoOk K μ ν H st → Rep K μ (hid μ ν H) d v → Out K ν E μ H (r d lo hi st) (fun d st' μ' H' => ∀ v, Rep K μ' (hid μ' ν H') d v → Q v H') → t v lo hi H Q)
    (h : tD K E (eSlice r fe fl fh) σ H Q) : tSl t (tD K E fe) (tDo K E fl) (tDo K E fh) σ H Q := by
  obtain ⟨μ, ν, δ, st, S, o⟩ := h
  refine ⟨μ, ν, δ, st, S, o.fst.imp fun x st1 μ1 H1 e1 s1 o1 v hv => ?_⟩
  refine ⟨μ1, ν, δ, st1, S.ext e1 s1, o1.fst.imp fun lo st2 μ2 H2 e2 s2 o2 => ?_⟩
  refine ⟨μ2, ν, δ, st2, (S.ext e1 s1).ext e2 s2, o2.fst.imp fun hi st3 μ3 H3 e3 s3 o3 => ?_⟩
  exact ht s3 ((hv.ext e2).ext e3) o3
theorem de_slice {e : Expr} {lo hi : Option Expr} {p2 : Pos} {fe : EF} {fl fh : En → M (Option Int)} (he : DE X E e fe) (hl : DP X E lo fl) (hh : DP X E hi fh) : DE X E (.Subscript e (.Slice lo hi none p2) pos) (eSlice slD fe fl fh) :=
  pe_imp (pe_slice sl_list he hl hh) fun σ H Q h => tD_sl (fun S r o => by
    unfold slD at o
    split at o
    · rename_i xs hx
      obtain ⟨a, vs, e1, e2, e3, e4⟩ := asL_rep S r hx
      exact ⟨a, vs, e1, e2, fun p hp => o.go rfl (S.ext_new hp) (S.new hp) _ (rep_lst S hp (Nat.le_trans cut_len e3) (cut_rep e4))⟩
    · exact o.elim) h
theorem de_sliceN {e : Expr} {lo hi : Option Expr} {p2 : Pos} {fe : EF} {fl fh : En → M (Option Int)} (he : DE X E e fe) (hl : DP X E lo fl) (hh : DP X E hi fh) : DE X E (.Subscript e (.Slice lo hi none p2) pos) (eSlice slN fe fl fh) :=
  pe_imp (pe_slice sl_list he hl hh) fun σ H Q h => tD_sl (fun S r o => by
    unfold slN at o
    split at o
    · rename_i xs hx
      obtain ⟨a, vs, e1, e2, e3, e4⟩ := asL_rep S r hx
      exact ⟨a, vs, e1, e2, fun p hp => let ⟨s1, s2, s3⟩ := sto_lst S hp (Nat.le_trans cut_len e3) (cut_rep e4); o.go rfl s2 s1 _ s3⟩
    · exact o.elim) h
/-! ### xs.append(e) -/
def appD (o d : D) : M D := fun st => match o with
  | .obj i => match st[i]? with
    | some (.lst xs) => if xs.length < sizeLine then some (.ok .non (st.set i (.lst (xs ++ [d])))) else none
    | _ => none
  | _ => none
/-- a list of the store -/
def isLO (o : D) : M Unit := fun st => match o with
  | .obj i => match st[i]? with
    | some (.lst xs) => some (.ok () st)
    | _ => none
  | _ => none
def eApp (fo fe : EF) : EF := fun δ => (fo δ).bind fun o => (isLO o).bind fun _ => (fe δ).bind fun d => appD o d
theorem de_append {o e : Expr} {apos : Pos} {fo fe : EF} (ho : DE X E o fo) (he : DE X E e fe) (hbase : attributeBase o "append" X.env (eval o X.env) = eval o X.env := by rfl)
    (hfew : ((backTo pos (starEach (e :: []) X.env)).all (fun x => !x.1) && (backToKw pos (keywordEach [] X.env)).all (fun x => x.1.isSome)
      && decide ((e :: []).length + ([] : List Keyword).length + (if ([] : List Keyword).isEmpty then 0 else 1) < 30)) = true := by rfl)
    (hline : (apos.endLine == pos.line) = true := by rfl) (hs : starEach (e :: []) X.env = (false, eval e X.env) :: starEach [] X.env := by rfl) (hplain : (backTo pos (starEach [] X.env)).any (·.1) = false := by rfl) :
    DE X E (.Call (.Attribute o "append" apos) [e] [] pos) (eApp fo fe) :=
  pe_imp (pe_bm PySem.F.plainAttrs_list PySem.F.slot_list_append PySem.F.type_list_append mt_append ho (pa_cons he pa_nil hs) hbase hfew hline hs hplain) fun σ H Q ⟨μ, ν, δ, st, S, o⟩ => by
    refine ⟨μ, ν, δ, st, S, o.fst.imp fun x st1 μ1 H1 e1 s1 o1 v hv => ?_⟩
    have o2 := o1.fst
    unfold isLO at o2
    split at o2
    · rename_i i
      split at o2
      · rename_i xs hc
        obtain ⟨⟨a, vs, h1, h2, h3, h4⟩, hav⟩ := s1.obj hv hc
        refine ⟨by rw [hav a h1]; exact .inl ⟨rfl, vs, .inl (.inl h2)⟩, ?_⟩
        have o3 := o2.now s1
        refine ⟨μ1, ν, δ, st1, S.ext e1 s1, o3.fst.imp fun d st2 μ2 H2 e2 s2 o4 w hw => ?_⟩
        unfold appD at o4
        dsimp only at o4
        split at o4
        · rename_i ys hc2
          split at o4
          · rename_i hl
            obtain ⟨⟨a2, vs2, g1, g2, g3, g4⟩, hav2⟩ := s2.obj (hv.ext e2) hc2
            refine ⟨a2, vs2, w, hav2 a2 g1, rfl, g2, by rw [← g4.len]; exact hl, ?_⟩
            have e3 : Ext ν μ2 H2 μ2 (upd H2 a2 (.lst (vs2 ++ [w]))) := (s2.put (c := .dead) g1 trivial).2
            have P := s2.put (o := .lst (vs2 ++ [w])) (c := .lst (ys ++ [d])) g1 ⟨a2, _, g1, upd_same, by rw [List.length_append, List.length_singleton]; omega, (g4.append (.one hw)).ext e3⟩
            exact o4.go rfl P.2 P.1 _ to_non
          · exact o4.elim
        · exact o4.elim
      · exact o2.elim
    · exact o2.elim
/-! ### a list leaves the store: from here on it stays as it is -/
def mvD (d : D) : M D := fun st => match d with
  | .obj i => match st[i]? with
    | some (.lst xs) => some (.ok (.lst xs) (st.set i .dead))
    | _ => none
  | d => some (.ok d st)
def eMv (f : EF) : EF := fun δ => (f δ).bind mvD
theorem free_at {K : PySem.W.Frag} {μ : Mu} {ν : List Addr} {H : Hp} {st : Sto} (S : StoOk K μ ν H st) {i : Nat} {a : Addr} (h : μ[i]? = some (some a)) :
    Ext ν μ H (μ.set i none) H ∧ StoOk K (μ.set i none) ν H (st.set i .dead) ∧ some a ∉ μ.set i none := by
  have hl : i < μ.length := (List.getElem?_eq_some_iff.mp h).1
  have back : ∀ (j : Nat) (b : Addr), (μ.set i none)[j]? = some (some b) → j ≠ i ∧ μ[j]? = some (some b) := fun j b e => by
    by_cases hj : j = i
    · subst hj
      rw [List.getElem?_set_self hl] at e
      cases e
    · rw [List.getElem?_set_ne (fun z => hj z.symm)] at e
      exact ⟨hj, e⟩
  have inside : ∀ b, some b ∈ μ.set i none → some b ∈ μ := fun b hb => by
    obtain ⟨j, hj⟩ := List.mem_iff_getElem?.mp hb
    exact mem_of_get (back j b hj).2
  have E1 : Ext ν μ H (μ.set i none) H := ⟨⟨by rw [List.length_set]; exact Nat.le_refl _, fun j b _ e => (back j b e).2⟩, fun b o e => by
    obtain ⟨e1, e2, e3⟩ := hid_some e
    rw [hid_of (fun z => e2 (inside b z)) e3]
    exact e1, fun _ _ => rfl⟩
  refine ⟨E1, ⟨by rw [List.length_set, List.length_set]; exact S.len, fun j l b h1 h2 => S.inj j l b (back j b h1).2 (back l b h2).2, fun b hb => S.live b (inside b hb), fun b hb => ⟨(S.out b hb).1, fun z => (S.out b hb).2 (inside b z)⟩, fun j c hc => ?_⟩, fun z => ?_⟩
  · by_cases hj : j = i
    · subst hj
      rw [List.getElem?_set_self (by rw [← S.len]; exact hl)] at hc
      cases hc
      trivial
    · rw [List.getElem?_set_ne (fun z => hj z.symm)] at hc
      refine (S.cell j c hc).stay E1 (S.lt hc) fun b hb => ⟨?_, rfl⟩
      rw [List.getElem?_set_ne (fun z => hj z.symm)]
      exact hb
  · obtain ⟨j, hj⟩ := List.mem_iff_getElem?.mp z
    obtain ⟨n, e⟩ := back j a hj
    exact n (S.inj j i a e h)
theorem de_mv {e : Expr} {f : EF} (h : DE X E e f) : DE X E e (eMv f) := pe_imp h fun σ H Q ⟨μ, ν, δ, st, S, o⟩ => by
  refine ⟨μ, ν, δ, st, S, o.fst.imp fun d st1 μ1 H1 e1 s1 o1 v hv => ?_⟩
  unfold mvD at o1
  split at o1
  · rename_i i
    split at o1
    · rename_i xs hc
      obtain ⟨⟨a, vs, h1, h2, h3, h4⟩, hav⟩ := s1.obj hv hc
      obtain ⟨e2, s2, na⟩ := free_at s1 h1
      have out : a ∉ ν := fun z => (s1.out a z).2 (mem_of_get h1)
      refine o1.go rfl e2 s2 v ?_
      unfold Rep
      exact ⟨a, vs, hav a h1, by rw [hid_of na out]; exact h2, h3, h4.ext e2⟩
    · exact o1.elim
  · exact o1.now s1 v hv
/-! ### x in xs, xs data -/
def inD (x y : D) : M D := fun st => match datD st 8 x, datD st 8 y with
  | some a, some (.list ys) => some (.ok (.bl (ys.any fun z => PyData.eqv z a)) st)
  | _, _ => none
def ninD (x y : D) : M D := fun st => match datD st 8 x, datD st 8 y with
  | some a, some (.list ys) => some (.ok (.bl (!ys.any fun z => PyData.eqv z a)) st)
  | _, _ => none
theorem od_in (hu : X.A.units + 65 < cLine) : OpR X (compareOp .In) (rD2 X.K E inD) := opR_imp (op_inD hu) fun x y H Q ⟨μ, ν, dx, dy, st, S, hx, hy, o⟩ => by
  unfold inD at o
  split at o
  · rename_i a ys ha hb
    have p := dat_rep S 8 dx x a hx ha
    have q := dat_rep S 8 dy y _ hy hb
    exact ⟨a, ys, p.dp, q.dp, shaped_of p, shaped_of q, o.now S _ to_bl⟩
  · exact o.elim
theorem od_nin (hu : X.A.units + 65 < cLine) : OpR X (compareOp .NotIn) (rD2 X.K E ninD) := opR_imp (op_notInD hu) fun x y H Q ⟨μ, ν, dx, dy, st, S, hx, hy, o⟩ => by
  unfold ninD at o
  split at o
  · rename_i a ys ha hb
    have p := dat_rep S 8 dx x a hx ha
    have q := dat_rep S 8 dy y _ hy hb
    exact ⟨a, ys, p.dp, q.dp, shaped_of p, shaped_of q, o.now S _ to_bl⟩
  · exact o.elim
end
/-! ### a part of a loop whose own names and places are forgotten -/
def keepD (keep : List Nat) (δ : En) : En := (List.range δ.length).map fun i => if i ∈ keep then (match δ[i]? with | some o => o | none => none) else none
/-- forget the names -/
def unsetAll (δ : En) : List Nat → En
  | [] => δ
  | i :: r => (unsetAll δ r).set i none
def belowO (n : Nat) : Option D → Bool
  | none => true
  | some d => belowD n d
def belowE (n : Nat) (δ : En) : Bool := δ.all (belowO n)
noncomputable def sScope (drop : List Nat) (f : SF) : SF := fun δ st => open Classical in match f δ st with
  | some (.ok (.nx δ') st1) => if TrOk st.length st st1 ∧ belowE st.length (unsetAll δ' drop) = true then some (.ok (.nx (unsetAll δ' drop)) (st1.take st.length)) else none
  | some (.ok (.ct δ') st1) => if TrOk st.length st st1 ∧ belowE st.length (unsetAll δ' drop) = true then some (.ok (.ct (unsetAll δ' drop)) (st1.take st.length)) else none
  | r => r
section
variable {K : PySem.W.Frag} {μ μ' : Mu} {ν : List Addr} {H H' : Hp} {st st1 : Sto} {E : XK} {δ : En} {σ : L2.St}
theorem simE_unset {G : Hp} (h : SimE K μ G δ σ) : ∀ l : List Nat, SimE K μ G (unsetAll δ l) σ
  | [] => h
  | i :: r => (simE_unset h r).unset
theorem simE_below {G : Hp} {n : Nat} (hn : n ≤ μ.length) : ∀ {δ : En} {σ : L2.St}, belowE n δ = true → SimE K μ G δ σ → SimE K (μ.take n) G δ σ
  | [], σ, _, h => by unfold SimE at h ⊢; exact h
  | none :: δ, σ, b, h => by
    unfold SimE at h ⊢
    unfold belowE at b
    rw [List.all_cons, Bool.and_eq_true] at b
    obtain ⟨v, r, h1, h2⟩ := h
    exact ⟨v, r, h1, simE_below hn b.2 h2⟩
  | some d :: δ, σ, b, h => by
    unfold SimE at h ⊢
    unfold belowE at b
    rw [List.all_cons, Bool.and_eq_true] at b
    obtain ⟨v, r, h1, h2, h3⟩ := h
    exact ⟨v, r, h1, below_rep hn d v b.1 h2, simE_below hn b.2 h3⟩
theorem scope_out {T : Ends} {f : SF} {drop : List Nat} (S : StoOk K μ ν H st) (o : Out K ν E μ H (sScope drop f δ st) fun fl st' μ' H' => endsD K ν T fl μ' H') : Out K ν E μ H (f δ st) fun fl st' μ' H' => endsD K ν T fl μ' H' := by
  unfold sScope at o
  cases e : f δ st with
  | none => rw [e] at o; exact o
  | some r =>
    rw [e] at o
    cases r with
    | er C fs st1 => exact o
    | ok fl st1 =>
      have key : ∀ (δ' : En) (R : L2.St → Hp → Prop), (TrOk st.length st st1 ∧ belowE st.length (unsetAll δ' drop) = true) → (∀ μ' H', Ext ν μ H μ' H' → StoOk K μ' ν H' (st1.take st.length) → ∀ σ, SimE K μ' (hid μ' ν H') (unsetAll δ' drop) σ → R σ H') →
          ∀ μ' H', Ext ν μ H μ' H' → StoOk K μ' ν H' st1 → ∀ σ, SimE K μ' (hid μ' ν H') δ' σ → R σ H' := fun δ' R t q μ' H' e1 s1 σ hσ => by
        have hn : st.length ≤ μ'.length := by rw [s1.len]; exact t.1.1
        refine q _ H' (ext_take e1 S.len) (sto_take S e1 s1 rfl t.1) σ ?_
        exact (simE_below hn t.2 (simE_unset hσ drop)).mono .refl hid_take
      cases fl with
      | rt d => exact o
      | bk δ' => exact o
      | nx δ' =>
        dsimp only at o
        split at o
        · rename_i t
          exact key δ' T.nx t o
        · exact o.elim
      | ct δ' =>
        dsimp only at o
        split at o
        · rename_i t
          exact key δ' T.ct t o
        · exact o.elim
end
theorem dss_scope {X : Cx} {E : XK} {s : List Stmt} {f : SF} {drop : List Nat} (h : DSs X E s f) : DSs X E s (sScope drop f) := pss_imp h fun T σ H ⟨μ, ν, δ, st, S, o⟩ => ⟨μ, ν, δ, st, S, scope_out S.sto o⟩
theorem ds_scope {X : Cx} {E : XK} {s : Stmt} {f : SF} {drop : List Nat} (h : DSt X E s f) : DSt X E s (sScope drop f) := ps_imp h fun T σ H ⟨μ, ν, δ, st, S, o⟩ => ⟨μ, ν, δ, st, S, scope_out S.sto o⟩

/-! ### a def that hands back what it made in the store -/
def callN (p m : Nat) (f : SF) (ds : List D) : M D := fun st => if ds.length = p then (match f (startD m ds) st with
  | some (.ok (.rt d) st1) => some (.ok d st1)
  | some (.ok (.nx _) st1) => some (.ok .non st1)
  | some (.er C fs st1) => some (.er C fs st1)
  | _ => none) else none
theorem def_okN {P : Program} {w : World} {K : PySem.W.Frag} {mg : Str → Option Value} {base : Heap} {x qual : Str} {s : Stmt} {f : Addr} {fd : FuncData} {N ps : List Str} {k : Nat} {b : SF} (F : Fun K x qual s f fd) (S : FnScope N ps (defScope s))
    (hbody : ∀ (cdv : Value) (A : Around) (outer : List Env) (s0 : Shared) (H : Hp) (E : XK), Room k (A.deeper (envOfC qual (defScope s) s0.heap.objs.size f cdv)) →
      DSs (cxOf (L2.CX P w) P w K mg base N qual (defScope s) f cdv A outer s0 H E) E (defBody s) b) : FnOk P w K mg base (L2.CX P w) (k + 1) f fd ps (spD K (callN ps.length N.length b)) := by
  refine F.okX S (fun vs H Q E h => ?_) (fun cdv A outer s0 H vs Q E hr h => ⟨_, hbody cdv A outer s0 H E hr, ?_⟩)
  · obtain ⟨μ, ν, ds, st, S, r, o⟩ := h
    unfold callN at o
    split at o
    · rw [← r.len]; assumption
    · exact o.elim
  · obtain ⟨μ, ν, ds, st, S, r, o⟩ := h
    unfold callN at o
    split at o
    case isFalse => exact o.elim
    refine ⟨μ, ν, startD N.length ds, st, ⟨S, ?_⟩, ?_⟩
    · unfold startD L2.start
      rw [r.len]
      exact simE_start _ r
    · cases e : b (startD N.length ds) st with
      | none => rw [e] at o; exact o.elim
      | some res =>
        rw [e] at o
        cases res with
        | er C fs st1 => exact o
        | ok fl st1 =>
          cases fl with
          | rt d => exact o
          | nx δ => exact fun μ' H' e1 s1 σ' _ => o μ' H' e1 s1 _ to_non
          | bk δ => exact o.elim
          | ct δ => exact o.elim
/-! ### the law's end -/
def spLaw (K : PySem.W.Frag) : Sp := fun vs H Q _ => ∃ (a : Addr) (ns : List Int), vs = [.ref a] ∧ SqL K H a (ns.map V.int) ∧ ns.length ≤ 63 ∧ ∀ H', Q (.bl true) H'
theorem hid_nil {H : Hp} : hid [] [] H = H := by
  funext a
  unfold hid
  rw [if_neg (by simp)]
theorem law_sp {K : PySem.W.Frag} {g : List D → M D} (h : ∀ ns : List Int, ns.length ≤ 63 → ∃ st, g [.fl (ns.map D.int)] [] = some (.ok (.bl true) st)) : ∀ vs H Q E, spLaw K vs H Q E → spD K g vs H Q E := by
  rintro vs H Q E ⟨a, ns, rfl, hS, hl, q⟩
  obtain ⟨st, e⟩ := h ns hl
  refine ⟨[], [], [.fl (ns.map D.int)], [], ⟨rfl, fun i j a h => by simp at h, fun a h => by simp at h, fun a h => by simp at h, fun i c h => by simp at h⟩, .one ?_, ?_⟩
  · unfold Rep
    rw [hid_nil]
    exact ⟨a, _, rfl, hS, by rw [List.length_map]; exact Nat.le_trans hl (by decide), Reps.ints⟩
  · rw [e]
    intro μ' H' e1 s1 v hv
    rw [rep_bl hv]
    exact q H'
end DL
end
section
namespace DL
open PySem PySem.Spec PyProof.Rows L2
section
variable {X : Cx} {E : XK} {pos : Pos}
theorem units65 {k : Nat} {A : Around} (r : Room k A) : A.units + 65 < cLine := by have := r.un; omega
def negD (d : D) : M D := fun st => match d with
  | .int i => some (.ok (.int (-i)) st)
  | _ => none
def eNeg (f : EF) : EF := fun δ => (f δ).bind negD
theorem de_neg {e : Expr} {f : EF} (h : DE X E e f) : DE X E (.UnaryOp .USub e pos) (eNeg f) := pe_imp (pe_un un_neg h) fun σ H Q ⟨μ, ν, δ, st, S, o⟩ => by
  refine ⟨μ, ν, δ, st, S, o.fst.imp fun d st1 μ1 H1 e1 s1 o1 v hv => ?_⟩
  unfold negD at o1
  split at o1
  · exact ⟨_, rep_int hv, o1.now s1 _ to_int⟩
  · exact o1.elim
theorem ds_doc {x j pos' pos''} : DSt X E (.Expr (.Constant (.str x) j pos') pos'') sNext := ps_imp ps_doc fun T σ H ⟨μ, ν, δ, st, S, o⟩ => o.ret S.sto σ S.env
def sRet0 : SF := fun _ => M.pure (.rt .non)
theorem ds_ret0 : DSt X E (.Return none pos) sRet0 := ps_imp ps_retN fun T σ H ⟨μ, ν, δ, st, S, o⟩ => o.ret S.sto _ to_non
/-- xs * k, a new list of the store -/
def mulN (x y : D) : M D := fun st => match y with
  | .int k => match asM st x with
    | some xs => if -(2 ^ 63) ≤ k ∧ k < 2 ^ 63 ∧ xs.length * k.toNat ≤ sizeLine then some (.ok (.obj st.length) (st ++ [.lst (List.replicate k.toNat xs).flatten])) else none
    | none => none
  | _ => none
theorem od_mulN : OpR X (binaryOp .Mult) (rD2 X.K E mulN) := opR_imp op_rep fun x y H Q ⟨μ, ν, dx, dy, st, S, hx, hy, o⟩ => by
  unfold mulN at o
  split at o
  · split at o
    · rename_i hm
      split at o
      · rename_i hk
        obtain ⟨a, vs, e1, e2, e3, e4⟩ := asM_rep S hx hm
        refine ⟨a, _, vs, e1, rep_int hy, e2, hk.1, hk.2.1, by rw [← e4.len]; exact hk.2.2, fun p hp => ?_⟩
        obtain ⟨s1, s2, s3⟩ := sto_lst S hp (by rw [List.length_flatten, List.map_replicate, List.sum_replicate_nat, Nat.mul_comm]; exact hk.2.2) (reps_rep e4 _)
        exact o.go rfl s2 s1 _ s3
      · exact o.elim
    · exact o.elim
  · exact o.elim
/-- an attribute that is a property of two classes -/
def eOr2 (C : Addr) (fo f1 f2 : EF) : EF := fun δ st => match fo δ st with
  | some (.ok d st') => match asI st' d with
    | some (C', _) => if C' = C then f1 δ st else f2 δ st
    | none => f1 δ st
  | _ => f1 δ st
theorem de_propOr {e : Expr} {C : Addr} {fo f1 f2 : EF} (h1 : DE X E e f1) (h2 : DE X E e f2) : DE X E e (eOr2 C fo f1 f2) := de_or2 h1 h2 fun δ st => by
  unfold eOr2
  split
  · split
    · split
      · exact .inl rfl
      · exact .inr rfl
    · exact .inl rfl
  · exact .inl rfl

/-! ### two fors in one comprehension -/
/-- the inner loop: its own source, target and tests, for each turn of the outer -/
def lc2M (g : TgF) (tt : En → M Bool) (it1 : ItF) (g1 : TgF) (vs1 : List Nat) (tt1 : En → M Bool) (el : EF) (δ : En) : List D → M (List D)
  | [] => M.pure []
  | x :: xs => (g x δ).bind fun δ1 => (tt δ1).bind fun b => if b = true then (it1 δ1).bind fun ys => (lcM g1 tt1 el (wipeD δ1 vs1) ys).bind fun r1 => (lc2M g tt it1 g1 vs1 tt1 el δ xs).bind fun r => M.pure (r1 ++ r) else lc2M g tt it1 g1 vs1 tt1 el δ xs
/-- most: a bound of how many items there can be -/
def eLc2M (most : Nat) (it : ItF) (g : TgF) (vs : List Nat) (tt : En → M Bool) (it1 : ItF) (g1 : TgF) (vs1 : List Nat) (tt1 : En → M Bool) (el : EF) : En → M (List D) := fun δ => (it δ).bind fun xs st => if xs.length * most ≤ sizeLine then noer (lc2M g tt (fun δ1 => (it1 δ1).bind fun ys st => if ys.length ≤ most then some (.ok ys st) else none) g1 vs1 tt1 el (wipeD δ vs) xs) st else none
def eLc2 (most : Nat) (it : ItF) (g : TgF) (vs : List Nat) (tt : En → M Bool) (it1 : ItF) (g1 : TgF) (vs1 : List Nat) (tt1 : En → M Bool) (el : EF) : EF := fun δ => (eLc2M most it g vs tt it1 g1 vs1 tt1 el δ).bind fun r => M.pure (.lst r)
theorem tD_lc2 {K : PySem.W.Frag} {most : Nat} {it it1 : ItF} {g g1 : TgF} {vs vs1 : List Nat} {t t1 : TG} {tt tt1 : En → M Bool} {el : EF} {fin : List D → M D} {σ : L2.St} {H : Hp} {Q : VK} (hg : CG K vs t g) (hg1 : CG K vs1 t1 g1)
    (hfin : ∀ {μ ν H st r ws D} {k : VK}, StoOk K μ ν H st → H D = none → r.length ≤ sizeLine → Reps K μ (hid μ ν H) r ws → Out K ν E μ H (fin r st) (fun d st' μ' H' => ∀ v, Rep K μ' (hid μ' ν H') d v → k v H') → k (.ref D) (upd H D (.lst ws)))
    (h : tD K E (fun δ => (eLc2M most it g vs tt it1 g1 vs1 tt1 el δ).bind fin) σ H Q) : tLc2 (tDI K E it) t (tDb K E0 tt) (tDI K E0 it1) t1 (tDb K E0 tt1) (tD K E0 el) vs vs1 σ H Q := by
  obtain ⟨μ, ν, δ, st, S, o⟩ := h
  generalize hit : (fun δ1 => (it1 δ1).bind fun ys st => if ys.length ≤ most then some (R.ok ys st) else none : ItF) = it2 at o
  have o' : Out K ν E μ H ((it δ).bind (fun xs => M.bind (fun st => if xs.length * most ≤ sizeLine then noer (lc2M g tt it2 g1 vs1 tt1 el (wipeD δ vs) xs) st else none) fin) st) (fun d st' μ' H' => ∀ v, Rep K μ' (hid μ' ν H') d v → Q v H') := by
    have e : ((it δ).bind (fun xs => M.bind (fun st => if xs.length * most ≤ sizeLine then noer (lc2M g tt it2 g1 vs1 tt1 el (wipeD δ vs) xs) st else none) fin) st) = ((eLc2M most it g vs tt it1 g1 vs1 tt1 el δ).bind fin st) := by
      unfold eLc2M M.bind
      rw [← hit]
      dsimp only
      cases it δ st with
      | none => rfl
      | some r => cases r <;> rfl
    rw [e]; exact o
  refine ⟨μ, ν, δ, st, S, o'.fst.imp fun xs st1 μ1 H1 e1 s1 o1 J G Dd hD => ?_⟩
  have S1 := S.ext e1 s1
  have ndν : Dd ∉ ν := (s1.fresh hD).2
  have o2 := o1.fst
  split at o2
  case isFalse => exact o2.elim
  rename_i hxl
  have o2 := o2.noer
  refine ⟨fun i m H' => ∃ μ' st' acc ws, StoOk K μ' ν (rem Dd H') st' ∧ Ext ν μ1 H1 μ' (rem Dd H') ∧ H' Dd = some (.lst ws) ∧ Reps K μ' (hid μ' ν (rem Dd H')) acc ws ∧ m = xs.length - i ∧ i ≤ xs.length ∧ acc.length ≤ i * most ∧
      Out K ν E0 μ' (rem Dd H') (lc2M g tt it2 g1 vs1 tt1 el (wipeD δ vs) (xs.drop i) st') fun r st2 μ2 H2 => Out K ν E μ2 H2 (fin (acc ++ r) st2) fun d st' μ' H' => ∀ v, Rep K μ' (hid μ' ν H') d v → Q v H',
    ⟨_, μ1, st1, [], [], by rw [rem_upd hD]; exact s1, by rw [rem_upd hD]; exact .refl, upd_same, .nil, rfl, Nat.zero_le _, Nat.zero_le _, by rw [rem_upd hD]; exact o2⟩, fun i m H2 hW => ?_⟩
  obtain ⟨μ2, st2, acc, ws, s2, e2, hd, hacc, rfl, hi, hal, o3⟩ := hW
  have U2 := sto_unrem s2 hd ndν
  have E2 : MuExt μ1 μ2 := e2.mu
  have X2 : Same (hid μ1 ν H1) (hid μ2 (Dd :: ν) H2) := by rw [hid_rem]; exact e2.same
  have sn : Seen ν μ1 H1 (Dd :: ν) μ2 H2 := ⟨E2, X2⟩
  by_cases hlt : i < xs.length
  · refine .inr ⟨G.go i _ μ2 H2 sn hlt, _, fun H' q => ⟨xs.length - (i + 1), by omega, q⟩, fun x H4 hy => ?_⟩
    obtain ⟨d, hd1, e4, s4, hx⟩ := G.yld i _ μ2 H2 st2 x H4 sn U2 hlt hy
    rw [List.drop_eq_getElem_cons hlt] at o3
    obtain rfl : xs[i] = d := by rw [List.getElem?_eq_getElem hlt] at hd1; exact Option.some.inj hd1
    have o4 := (Out.ext o3 (ext_rem e4)).fst
    have S4 : Sit K μ2 (Dd :: ν) (wipeD δ vs) st2 (L2.wipe σ vs) H4 := ⟨s4, by
      have := (S1.env.mono E2 X2).ext e4
      exact SimE.wipe this vs⟩
    have hd4 : H4 Dd = some (.lst ws) := by rw [e4.out Dd (List.mem_cons_self)]; exact hd
    have hacc4 : Reps K μ2 (hid μ2 (Dd :: ν) H4) acc ws := by
      have q := hacc
      rw [← hid_rem] at q
      exact q.ext e4
    refine hg.run S4 hx wipe_wipe ((o4.beside (a := Dd) ndν).imp fun δ5 st5 μ5 H5 e5 s5 o5 σ5 hσ5 hw5 => ⟨hw5, ?_⟩)
    refine ⟨μ5, Dd :: ν, δ5, st5, ⟨s5, hσ5⟩, (o5.1.fst.beside (a := Dd) ndν).imp fun b st6 μ6 H6 e6 s6 o6 => ?_⟩
    have e2' : Ext ν μ1 H1 μ6 (rem Dd H6) := ((e2.trans (ext_rem e4)).trans (ext_rem e5)).trans (ext_rem e6)
    have hd6 : H6 Dd = some (.lst ws) := by rw [e6.out Dd (List.mem_cons_self), e5.out Dd (List.mem_cons_self)]; exact hd4
    have hacc6 := (hacc4.ext e5).ext e6
    have o6 := o6.1
    have hnext : (i + 1) * most = i * most + most := Nat.succ_mul i most
    cases b with
    | false =>
      rw [if_neg (by decide)] at o6
      refine (if_neg (by decide)).mpr ?_
      exact ⟨μ6, st6, acc, ws, sto_rem s6 ndν, e2', hd6, by rw [← hid_rem]; exact hacc6, rfl, hlt, by omega, o6⟩
    | true =>
      rw [if_pos rfl] at o6
      refine (if_pos rfl).mpr ?_
      -- the inner source
      have o7a := o6.fst
      have o7b : Out K ν E0 μ6 (rem Dd H6) ((it1 δ5).bind (fun ys st => if ys.length ≤ most then some (R.ok ys st) else none) st6) (fun ys st7 μ7 H7 => Out K ν E0 μ7 H7 (M.bind (lcM g1 tt1 el (wipeD δ5 vs1) ys) (fun r1 => M.bind (lc2M g tt it2 g1 vs1 tt1 el (wipeD δ vs) (xs.drop (i + 1))) fun r => M.pure (r1 ++ r)) st7) fun r st2 μ2 H2 => Out K ν E μ2 H2 (fin (acc ++ r) st2) fun d st' μ' H' => ∀ v, Rep K μ' (hid μ' ν H') d v → Q v H') := by
        have hh : it2 δ5 st6 = ((it1 δ5).bind (fun ys st => if ys.length ≤ most then some (R.ok ys st) else none) st6) := by rw [← hit]
        rw [← hh]
        exact o7a
      have o7 := o7b.fst
      refine ⟨μ6, Dd :: ν, δ5, st6, ⟨s6, hσ5.ext e6⟩, (o7.beside (a := Dd) ndν).imp fun ys st7 μ7 H7 e7 s7 o8 J1 G1 => ?_⟩
      have o8 := o8.1
      split at o8
      case isFalse => exact o8.elim
      rename_i hyl
      have o9 := (o8.now (sto_rem s7 ndν)).fst
      have e27 : Ext ν μ1 H1 μ7 (rem Dd H7) := e2'.trans (ext_rem e7)
      have hd7 : H7 Dd = some (.lst ws) := by rw [e7.out Dd (List.mem_cons_self)]; exact hd6
      have hacc7 := hacc6.ext e7
      refine ⟨fun j k H' => ∃ μ' st' acc' ws', StoOk K μ' ν (rem Dd H') st' ∧ Ext ν μ7 (rem Dd H7) μ' (rem Dd H') ∧ H' Dd = some (.lst ws') ∧ Reps K μ' (hid μ' ν (rem Dd H')) acc' ws' ∧ k = ys.length - j ∧ j ≤ ys.length ∧ acc'.length ≤ i * most + j ∧
          Out K ν E0 μ' (rem Dd H') (lcM g1 tt1 el (wipeD δ5 vs1) (ys.drop j) st') fun r1 st2 μ2 H2 => Out K ν E0 μ2 H2 (lc2M g tt it2 g1 vs1 tt1 el (wipeD δ vs) (xs.drop (i + 1)) st2) fun r st3 μ3 H3 => Out K ν E μ3 H3 (fin (acc' ++ r1 ++ r) st3) fun d st' μ' H' => ∀ v, Rep K μ' (hid μ' ν H') d v → Q v H',
        ⟨_, μ7, st7, acc, ws, sto_rem s7 ndν, .refl, hd7, by rw [← hid_rem]; exact hacc7, rfl, Nat.zero_le _, by omega, ?_⟩, fun j k H8 hW8 => ?_⟩
      · refine o9.imp fun r1 st8 μ8 H8 e8 s8 o10 => ?_
        refine o10.fst.imp fun r st9 μ9 H9 e9 s9 z => ?_
        have z := z.ret s9
        rw [List.append_assoc]
        exact z
      · obtain ⟨μ8, st8, acc8, ws8, s8, e8, hd8, hacc8, rfl, hj, hal8, o10⟩ := hW8
        have U8 := sto_unrem s8 hd8 ndν
        have sn8 : Seen (Dd :: ν) μ7 H7 (Dd :: ν) μ8 H8 := ⟨e8.mu, by rw [hid_rem, hid_rem]; exact e8.same⟩
        by_cases hjl : j < ys.length
        · refine .inr ⟨G1.go j _ μ8 H8 sn8 hjl, _, fun H' q => ⟨ys.length - (j + 1), by omega, q⟩, fun y H9 hy9 => ?_⟩
          obtain ⟨d9, hd9', e9, s9, hx9⟩ := G1.yld j _ μ8 H8 st8 y H9 sn8 U8 hjl hy9
          rw [List.drop_eq_getElem_cons hjl] at o10
          obtain rfl : ys[j] = d9 := by rw [List.getElem?_eq_getElem hjl] at hd9'; exact Option.some.inj hd9'
          have o11 := (Out.ext o10 (ext_rem e9)).fst
          have S9 : Sit K μ8 (Dd :: ν) (wipeD δ5 vs1) st8 (L2.wipe σ5 vs1) H9 := ⟨s9, by
            have q1 : SimE K μ7 (hid μ7 (Dd :: ν) H7) δ5 σ5 := (hσ5.ext e6).ext e7
            have q2 := (q1.mono sn8.mu sn8.same).ext e9
            exact SimE.wipe q2 vs1⟩
          have hd9 : H9 Dd = some (.lst ws8) := by rw [e9.out Dd (List.mem_cons_self)]; exact hd8
          have hacc9 : Reps K μ8 (hid μ8 (Dd :: ν) H9) acc8 ws8 := by
            have q := hacc8
            rw [← hid_rem] at q
            exact q.ext e9
          refine hg1.run S9 hx9 wipe_wipe ((o11.beside (a := Dd) ndν).imp fun δ10 st10 μ10 H10 e10 s10 o12 σ10 hσ10 hw10 => ⟨hw10, ?_⟩)
          refine ⟨μ10, Dd :: ν, δ10, st10, ⟨s10, hσ10⟩, (o12.1.fst.beside (a := Dd) ndν).imp fun b1 st11 μ11 H11 e11 s11 o13 => ?_⟩
          have e8' : Ext ν μ7 (rem Dd H7) μ11 (rem Dd H11) := ((e8.trans (ext_rem e9)).trans (ext_rem e10)).trans (ext_rem e11)
          have hd11 : H11 Dd = some (.lst ws8) := by rw [e11.out Dd (List.mem_cons_self), e10.out Dd (List.mem_cons_self)]; exact hd9
          have hacc11 := (hacc9.ext e10).ext e11
          have o13 := o13.1
          cases b1 with
          | false =>
            rw [if_neg (by decide)] at o13
            refine (if_neg (by decide)).mpr ?_
            exact ⟨μ11, st11, acc8, ws8, sto_rem s11 ndν, e8', hd11, by rw [← hid_rem]; exact hacc11, rfl, hjl, by omega, o13⟩
          | true =>
            rw [if_pos rfl] at o13
            refine (if_pos rfl).mpr ?_
            refine ⟨μ11, Dd :: ν, δ10, st11, ⟨s11, hσ10.ext e11⟩, (o13.fst.beside (a := Dd) ndν).imp fun z st12 μ12 H12 e12 s12 o14 v hv => ?_⟩
            have hd12 : H12 Dd = some (.lst ws8) := by rw [e12.out Dd (List.mem_cons_self)]; exact hd11
            have hacc12 := hacc11.ext e12
            have o14 := o14.1.fst
            have hbig : acc8.length < sizeLine := by
              have h1 : (i + 1) * most ≤ xs.length * most := Nat.mul_le_mul_right most hlt
              omega
            refine ⟨ws8, hd12, by rw [← hacc12.len]; exact hbig, μ12, st12, acc8 ++ [z], ws8 ++ [v], ?_, ?_, upd_same, ?_, rfl, hjl, by rw [List.length_append, List.length_singleton]; omega, ?_⟩
            · rw [rem_upd']; exact sto_rem s12 ndν
            · rw [rem_upd']; exact e8'.trans (ext_rem e12)
            · rw [rem_upd', ← hid_rem]; exact hacc12.append (.one hv)
            · rw [rem_upd']
              refine o14.imp fun r st13 μ13 H13 e13 s13 o15 => ?_
              have q := o15.ret s13
              refine q.imp fun r2 st14 μ14 H14 e14 s14 o16 => ?_
              have e : acc8 ++ [z] ++ r ++ r2 = acc8 ++ (z :: r) ++ r2 := by simp
              rw [e]
              exact o16
        · have hz : j = ys.length := by omega
          subst hz
          rw [List.drop_length] at o10
          refine .inl ⟨G1.stop _ μ8 H8 sn8, ?_⟩
          have o11 := o10.ret s8
          refine ⟨μ8, st8, acc8, ws8, s8, e27.trans e8, hd8, hacc8, rfl, hlt, by omega, ?_⟩
          refine o11.imp fun r st9 μ9 H9 e9 s9 q => ?_
          rw [List.append_nil] at q
          exact q
  · have hz : i = xs.length := by omega
    subst hz
    rw [List.drop_length] at o3
    refine .inl ⟨G.stop _ μ2 H2 sn, ?_⟩
    have o4 := o3.ret s2
    rw [List.append_nil] at o4
    have hrem : rem Dd H2 Dd = none := rem_same
    have q := hfin s2 hrem (by omega) hacc o4
    rw [upd_rem hd] at q
    exact q
def eLc2N (most : Nat) (it : ItF) (g : TgF) (vs : List Nat) (tt : En → M Bool) (it1 : ItF) (g1 : TgF) (vs1 : List Nat) (tt1 : En → M Bool) (el : EF) : EF := fun δ => (eLc2M most it g vs tt it1 g1 vs1 tt1 el δ).bind fun r st => some (.ok (.obj st.length) (st ++ [.lst r]))
theorem tD_eLc2N {K : PySem.W.Frag} {most : Nat} {it it1 : ItF} {g g1 : TgF} {vs vs1 : List Nat} {t t1 : TG} {tt tt1 : En → M Bool} {el : EF} {σ : L2.St} {H : Hp} {Q : VK} (hg : CG K vs t g) (hg1 : CG K vs1 t1 g1) (h : tD K E (eLc2N most it g vs tt it1 g1 vs1 tt1 el) σ H Q) :
    tLc2 (tDI K E it) t (tDb K E0 tt) (tDI K E0 it1) t1 (tDb K E0 tt1) (tD K E0 el) vs vs1 σ H Q :=
  tD_lc2 hg hg1 (fun s hD hl hr o => let ⟨a, b, c⟩ := sto_lst s hD hl hr; (o.go rfl b a) _ c) h
theorem tD_eLc2 {K : PySem.W.Frag} {most : Nat} {it it1 : ItF} {g g1 : TgF} {vs vs1 : List Nat} {t t1 : TG} {tt tt1 : En → M Bool} {el : EF} {σ : L2.St} {H : Hp} {Q : VK} (hg : CG K vs t g) (hg1 : CG K vs1 t1 g1) (h : tD K E (eLc2 most it g vs tt it1 g1 vs1 tt1 el) σ H Q) :
    tLc2 (tDI K E it) t (tDb K E0 tt) (tDI K E0 it1) t1 (tDb K E0 tt1) (tD K E0 el) vs vs1 σ H Q :=
  tD_lc2 hg hg1 (fun s hD hl hr o => (o.go rfl (s.ext_new hD) (s.new hD)) _ (rep_lst s hD hl hr)) h
section
variable {elt tg iter tg1 iter1 : Expr} {ifs ifs1 : List Expr} {scope : Scope} {own : List (Str × Nat)} {vs1 : List Nat} {it it1 : ItF} {g g1 : TgF} {t t1 : TG} {tt tt1 : En → M Bool} {el : EF}
theorem de_lc2 (most : Nat) (hc : X.calm = true) (hN : X.N.Nodup) (hi : DI X E tg iter it) (ok : BlkOk X.N X.env.scope scope own) (hv : ∀ i ∈ vs1, i ∈ own.map (·.2)) (hcg : CG X.K (own.map (·.2)) t g) (hcg1 : CG X.K vs1 t1 g1)
    (hg : ∀ (s : Shared) (H : Hp) (C : Addr) (cl : List (Str × Addr)) (fp : List Addr), PG (X.blk s H scope (compEnvC scope cl C X.env) fp) tg t) (ht : ∀ (s : Shared) (H : Hp) (C : Addr) (cl : List (Str × Addr)) (fp : List Addr), DTs (X.blk s H scope (compEnvC scope cl C X.env) fp) ifs tt)
    (hi1 : ∀ (s : Shared) (H : Hp) (C : Addr) (cl : List (Str × Addr)) (fp : List Addr), DI (X.blk s H scope (compEnvC scope cl C X.env) fp) E0 tg1 iter1 it1)
    (hg1 : ∀ (s : Shared) (H : Hp) (C : Addr) (cl : List (Str × Addr)) (fp : List Addr), PG (X.blk s H scope (compEnvC scope cl C X.env) fp) tg1 t1) (ht1 : ∀ (s : Shared) (H : Hp) (C : Addr) (cl : List (Str × Addr)) (fp : List Addr), DTs (X.blk s H scope (compEnvC scope cl C X.env) fp) ifs1 tt1)
    (he : ∀ (s : Shared) (H : Hp) (C : Addr) (cl : List (Str × Addr)) (fp : List Addr), DE (X.blk s H scope (compEnvC scope cl C X.env) fp) E0 elt el) (hs : ∀ x, foldedSetIterable iter X.env x = pure x := by intro _; rfl) (hs1 : ∀ env x, foldedSetIterable iter1 env x = pure x := by intro _ _; rfl) :
    DE X E (.ListComp elt [⟨tg, iter, ifs, 0⟩, ⟨tg1, iter1, ifs1, 0⟩] scope pos) (eLc2 most it g (own.map (·.2)) tt it1 g1 vs1 tt1 el) := pe_imp (pe_lc2 hc hN hi ok hv hg ht hi1 hg1 ht1 he hs hs1) fun σ H Q h => tD_eLc2 hcg hcg1 h
theorem de_lc2N (most : Nat) (hc : X.calm = true) (hN : X.N.Nodup) (hi : DI X E tg iter it) (ok : BlkOk X.N X.env.scope scope own) (hv : ∀ i ∈ vs1, i ∈ own.map (·.2)) (hcg : CG X.K (own.map (·.2)) t g) (hcg1 : CG X.K vs1 t1 g1)
    (hg : ∀ (s : Shared) (H : Hp) (C : Addr) (cl : List (Str × Addr)) (fp : List Addr), PG (X.blk s H scope (compEnvC scope cl C X.env) fp) tg t) (ht : ∀ (s : Shared) (H : Hp) (C : Addr) (cl : List (Str × Addr)) (fp : List Addr), DTs (X.blk s H scope (compEnvC scope cl C X.env) fp) ifs tt)
    (hi1 : ∀ (s : Shared) (H : Hp) (C : Addr) (cl : List (Str × Addr)) (fp : List Addr), DI (X.blk s H scope (compEnvC scope cl C X.env) fp) E0 tg1 iter1 it1)
    (hg1 : ∀ (s : Shared) (H : Hp) (C : Addr) (cl : List (Str × Addr)) (fp : List Addr), PG (X.blk s H scope (compEnvC scope cl C X.env) fp) tg1 t1) (ht1 : ∀ (s : Shared) (H : Hp) (C : Addr) (cl : List (Str × Addr)) (fp : List Addr), DTs (X.blk s H scope (compEnvC scope cl C X.env) fp) ifs1 tt1)
    (he : ∀ (s : Shared) (H : Hp) (C : Addr) (cl : List (Str × Addr)) (fp : List Addr), DE (X.blk s H scope (compEnvC scope cl C X.env) fp) E0 elt el) (hs : ∀ x, foldedSetIterable iter X.env x = pure x := by intro _; rfl) (hs1 : ∀ env x, foldedSetIterable iter1 env x = pure x := by intro _ _; rfl) :
    DE X E (.ListComp elt [⟨tg, iter, ifs, 0⟩, ⟨tg1, iter1, ifs1, 0⟩] scope pos) (eLc2N most it g (own.map (·.2)) tt it1 g1 vs1 tt1 el) := pe_imp (pe_lc2 hc hN hi ok hv hg ht hi1 hg1 ht1 he hs hs1) fun σ H Q h => tD_eLc2N hcg hcg1 h
end
end
end DL
end
section
namespace DL
open PySem PySem.Spec PyProof.Rows L2
section
variable {X : Cx} {E : XK} {pos : Pos} {k : Nat} {f C : Addr} {fd : FuncData} {ps : List Str} {g : List D → M D}
/-- if o, o of an own class with __bool__ -/
def eTruO (C : Addr) (g : List D → M D) (fo : EF) : En → M Bool := fun δ => (fo δ).bind fun o => (ownM C g o []).bind bD
theorem dt_truO {e : Expr} {fo : EF} (he : DE X E e fo) (hs : PySem.W.findIn X.K (.ref C) "__bool__" = some (some (.ref f))) (hf : PySem.W.isFn X.K (.ref f) = true)
    (F : FnOk X.prog X.w X.K X.mg X.base (L2.CX X.prog X.w) k f fd ps (spD X.K g)) (hr : Room k X.A) (hb : Binds X.K fd ps []) (hx : Passes (L2.CX X.prog X.w) X E)
    (hw : ∀ whole, isTrue e X.env whole = (do let v ← whole; standAt e.pos; holding [v] (truthy v)) := by intro _; rfl) : DT X E e (eTruO C g fo) := ⟨fun pins s σ H Q I ⟨μ, ν, δ, st, S, o⟩ => by
  have h : tD X.K E fo σ H fun x H1 => ∃ μ1 st1 d, StoOk X.K μ1 ν H1 st1 ∧ Rep X.K μ1 (hid μ1 ν H1) d x ∧ Out X.K ν E μ1 H1 ((ownM C g d []).bind bD st1) fun b st' μ' H' => Q b H' := ⟨μ, ν, δ, st, S, o.fst.imp fun d st1 μ1 H1 e1 s1 o1 v hv => ⟨μ1, st1, d, s1, hv, o1⟩⟩
  refine isTrue_plain (thn (he.run pins s σ H _ I h) fun v s1 ⟨x, H1, I1, rx, μ1, st1, d, S1, hd, o1⟩ => ?_) (hw _)
  obtain ⟨a, dd, gs, rfl, ha, o2⟩ := own_rep S1 hd (Out.fst (m := ownM C g d []) (f := bD) o1)
  obtain rfl : v = Value.ref a := rx
  obtain ⟨mA, J, _⟩ := ins_get I1.hok ha
  obtain ⟨od, J, _⟩ := J.look
  obtain ⟨m, hF⟩ := I1.fr
  refine PySem.W.truthy_K hF I1.ok.mod.kin J hs hf (thn (run_at (vs := [.ref a]) (Q := fun z H' => ∃ b, z = .bl b ∧ Q b H') F hr rfl hb hx I1 (.cons rfl .nil) ⟨μ1, ν, [d], st1, S1, .one hd, o2.imp fun d st2 μ2 H2 e2 s2 o3 w hw => ?_⟩) fun r s' q => ?_)
  · obtain ⟨b, rfl, o4⟩ := bD_rep s2 hw o3
    exact ⟨b, rfl, o4⟩
  · obtain ⟨z, H', I', rz, b, rfl, q⟩ := q
    cases rz
    exact ⟨H', I', q⟩⟩
end
end DL
end
section
namespace DL
open PySem PySem.Spec PyProof.Rows L2
section
variable {X : Cx} {E : XK} {pos : Pos}
/-- a list's item by its place, from the front or from the back -/
theorem item_at {P : Program} {w : World} {A : Around} {B : Value → Shared → Prop} {s : Shared} {p : Addr} {ws : List Value} {i : Int} {t : Tok} {j : Nat} {u : Value} {R : Value → Shared → Prop} (L : s.heap.IsList p ws.toArray)
    (hz : ws.length < 2 ^ 62) (hj : ws[j]? = some u) (hi : i = (j : Int) ∨ i + (ws.length : Int) = (j : Int)) (neg : i < 0 ∨ i = (j : Int)) (q : R u s) : wpAny (model P w) A (getItem (.ref p) (.int i t)) R B s := by
  have hjl : j < ws.length := (List.getElem?_eq_some_iff.mp hj).1
  rcases neg with lt | same
  · have back : i + (ws.length : Int) = (j : Int) := hi.elim (fun z => by omega) id
    have place : (i + (ws.toArray.size : Int)).toNat = j := by rw [List.size_toArray, back]; rfl
    exact wpAny_getItem_list_neg L lt (by rw [List.size_toArray]; omega) (by omega) (by rw [place]; simpa using hj) q
  · have place : i.toNat = j := by rw [same]; rfl
    exact wpAny_getItem_list L (by omega) (by omega) (by rw [place]; simpa using hj) q
theorem get_listP : PGet X (rIxL X.K) := fun pins s σ H x y v u Q J rx ry h => by
  obtain ⟨p, cs, i, d, ex, ey, sq, at', q⟩ := h
  subst ex ey
  cases rx
  obtain ⟨tk, rfl⟩ := ry
  obtain ⟨ws, rel, L, small⟩ := J.list sq
  obtain ⟨j, hs, hd, _, low, high⟩ := atI_get at'
  obtain ⟨w, hw, rw'⟩ := rel.get hd
  have same := rel.length
  have big : sizeLine < 2 ^ 62 := by decide
  have pick : (i = (j : Int) ∨ i + (ws.length : Int) = (j : Int)) ∧ (i < 0 ∨ i = (j : Int)) := by
    by_cases n0 : 0 ≤ i
    · have z := (seqIndex_of n0 high).symm.trans hs
      have := Option.some.inj z
      exact ⟨.inl (by omega), .inr (by omega)⟩
    · have z := (seqIndex_neg (by omega) low).symm.trans hs
      have := Option.some.inj z
      exact ⟨.inr (by omega), .inl (by omega)⟩
  exact item_at L.isList (by omega) hw pick.1 pick.2 ⟨d, H, J, rw', q⟩
theorem setD_inv (o i d : D) (st : Sto) : setD o i d st = none ∨ ∃ j k xs n, o = .obj j ∧ i = .int k ∧ st[j]? = some (.lst xs) ∧ ixN xs.length k = some n ∧ setD o i d st = some (.ok () (st.set j (.lst (xs.set n d)))) := by
  unfold setD
  split
  · split
    · rename_i xs hc
      split
      · rename_i n hn
        exact .inr ⟨_, _, xs, n, rfl, rfl, hc, hn, rfl⟩
      · exact .inl rfl
    · exact .inl rfl
  · exact .inl rfl
def getLD (x y : D) : M D := fun st => match y with
  | .int i => match asL st x with
    | some xs => match atI xs i with
      | some d => some (.ok d st)
      | none => none
    | none => none
  | _ => none
def augI (f : Int → Int → Int) (x y : D) : M D := fun st => match x, y with
  | .int a, .int b => some (.ok (.int (f a b)) st)
  | _, _ => none
def sAug (f : Int → Int → Int) (fo fi fv : EF) : SF := fun δ => (fo δ).bind fun o => (fi δ).bind fun i => (getLD o i).bind fun x => (fv δ).bind fun y => (augI f x y).bind fun z => (setD o i z).bind fun _ => M.pure (.nx δ)
abbrev sAugadd (fo fi fv : EF) : SF := sAug (fun i j => i + j) fo fi fv
abbrev sAugsub (fo fi fv : EF) : SF := sAug (fun i j => i - j) fo fi fv
theorem ds_aug {f : Int → Int → Int} {o i e : Expr} {fo fi fv : EF} {op : Operator} {tpos : Pos} (hop : PIp X op (ipI f)) (ho : DE X E o fo) (hi : DE X E i fi) (he : DE X E e fv)
    (ha : ∀ ov iv new, augStore i ov iv new = (do holding [new, ov, iv] (setItem ov iv new); release [new, ov, iv] []; pure .next) := by intros; rfl) : DSt X E (.AugAssign (.Subscript o i tpos) op e pos) (sAug f fo fi fv) :=
  ps_imp (ps_augS ho hi get_listP he hop set_list ha) fun T σ H ⟨μ, ν, δ, st, S, o⟩ => by
    refine ⟨μ, ν, δ, st, S, o.fst.imp fun x st1 μ1 H1 e1 s1 o1 vx hx => ?_⟩
    have S1 := S.ext e1 s1
    refine ⟨μ1, ν, δ, st1, S1, o1.fst.imp fun y st2 μ2 H2 e2 s2 o2 vy hy => ?_⟩
    have S2 := S1.ext e2 s2
    have hx2 := hx.ext e2
    have o3 := o2.fst
    unfold getLD at o3
    split at o3
    · rename_i i
      split at o3
      · rename_i xs h1
        split at o3
        · rename_i d hd
          obtain ⟨a, vs, g1, g2, g3, g4⟩ := asL_rep s2 hx2 h1
          obtain ⟨w, f1, f2⟩ := reps_at g4 hd
          refine ⟨a, vs, _, w, g1, rep_int hy, g2, f1, ?_⟩
          have o3 := o3.now s2
          refine ⟨μ2, ν, δ, st2, S2, o3.fst.imp fun z st3 μ3 H3 e3 s3 o4 vz hz => ?_⟩
          have S3 := S2.ext e3 s3
          have o5 := o4.fst
          have hd3 := f2.ext e3
          have hx3 := hx2.ext e3
          have hy3 := hy.ext e3
          unfold augI at o5
          split at o5
          · rename_i m n _
            refine ⟨m, n, rep_int hd3, rep_int hz, ?_⟩
            have o6 := (o5.now s3).fst
            rcases setD_inv x (D.int i) (D.int (f m n)) st3 with h0 | ⟨jj, kk, xs2, n2, rfl, hk, hc, hn, hr⟩
            · rw [h0] at o6; exact o6.elim
            · cases hk
              rw [hr] at o6
              obtain ⟨⟨a2, vs2, h1', h2, h3, h4⟩, hav⟩ := s3.obj hx3 hc
              refine ⟨a2, vs2, _, n2, hav a2 h1', rep_int hy3, h2, by rw [← h4.len]; exact hn, ?_⟩
              have e4 : Ext ν μ3 H3 μ3 (upd H3 a2 (.lst (vs2.set n2 (.int (f m n))))) := (s3.put (c := .dead) h1' trivial).2
              have P := s3.put (o := .lst (vs2.set n2 (.int (f m n)))) (c := .lst (xs2.set n2 (.int (f m n)))) h1' ⟨a2, _, h1', upd_same, by rw [List.length_set]; exact h3, (h4.set (by simp [Rep]) n2).ext e4⟩
              have q := o6 _ _ P.2 P.1
              exact q.ret P.1 σ (S3.env.ext P.2)
          · exact o5.elim
        · exact o3.elim
      · exact o3.elim
    · exact o3.elim
theorem ds_augadd {o i e : Expr} {fo fi fv : EF} {tpos : Pos} (ho : DE X E o fo) (hi : DE X E i fi) (he : DE X E e fv)
    (ha : ∀ ov iv new, augStore i ov iv new = (do holding [new, ov, iv] (setItem ov iv new); release [new, ov, iv] []; pure .next) := by intros; rfl) : DSt X E (.AugAssign (.Subscript o i tpos) .Add e pos) (sAugadd fo fi fv) := ds_aug ip_add ho hi he ha
theorem ds_augsub {o i e : Expr} {fo fi fv : EF} {tpos : Pos} (ho : DE X E o fo) (hi : DE X E i fi) (he : DE X E e fv)
    (ha : ∀ ov iv new, augStore i ov iv new = (do holding [new, ov, iv] (setItem ov iv new); release [new, ov, iv] []; pure .next) := by intros; rfl) : DSt X E (.AugAssign (.Subscript o i tpos) .Sub e pos) (sAugsub fo fi fv) := ds_aug ip_sub ho hi he ha
end
theorem cx_no {P : Program} {w : World} {outer : List Env} {H : Hp} {s s' : Shared} {u : Value} (z : L2.CX P w outer H s (fun _ _ _ => False) u s') : False := by
  obtain ⟨_, _, _, _, _, _, _, _, _, _, _, _, q⟩ := z
  exact q
theorem kit_rt {K : PySem.W.Frag} {C : Addr} {T : String} (h : PySem.W.subIn K (.ref C) (.type T) = some false) (m : PySem.W.kitMeta T = true := by decide +kernel) : PySem.W.kitOne K (.ref C) (.type T) = some false := by
  unfold PySem.W.kitOne PySem.W.kitCls
  rw [if_neg (by simp)]
  dsimp only
  rw [if_pos m, h]
theorem kit_to {K : PySem.W.Frag} {C : Addr} {T : String} {x : Value} (c : PySem.W.isClsIn K C = true ∨ True) (cl : (PySem.W.clsIn K C).isSome = true) (ty : PySem.W.typeIn K (.ref C) = some (.type "type")) (h : PySem.W.subIn K (.type T) (.ref C) = some false) : PySem.W.kitOne K (.type T) (.ref C) = some false := by
  unfold PySem.W.kitOne PySem.W.kitCls
  rw [if_neg (by simp)]
  dsimp only
  rw [if_pos (by rw [cl, ty]; rfl), h]
theorem kit_oo {K : PySem.W.Frag} {C D : Addr} (ne : D ≠ C) (cl : (PySem.W.clsIn K C).isSome = true) (ty : PySem.W.typeIn K (.ref C) = some (.type "type")) (h : PySem.W.subIn K (.ref D) (.ref C) = some false) : PySem.W.kitOne K (.ref D) (.ref C) = some false := by
  unfold PySem.W.kitOne PySem.W.kitCls
  rw [if_neg (by simpa using ne)]
  dsimp only
  rw [if_pos (by rw [cl, ty]; rfl), h]
end DL
end
section
/-! what hands out new tuples, turn by turn: enumerate and zip over lists and tuples in any mixture -/
namespace DL
open PySem PySem.Spec PyProof.Rows L2
/-- a source: a tuple (true) or a list at a -/
def SqA (K : PySem.W.Frag) (t : Bool) (H : Hp) (a : Addr) (vs : List V) : Prop := match t with
  | true => SqT K H a vs
  | false => SqL K H a vs
def isSq (t : Bool) (h : Heap) (a : Addr) (items : Array Value) : Prop := match t with
  | true => h.IsTuple a items
  | false => h.IsList a items
def itAt (t : Bool) (h : Heap) (it a : Addr) (i : Nat) : Prop := match t with
  | true => h.IsTupleIter it a i
  | false => h.IsListIter it a i
def itNew (t : Bool) (a : Addr) : Obj := match t with
  | true => { cls := .type "tuple_iterator", data := .fields #[.ref a, .int 0 0] }
  | false => { cls := .type "list_iterator", data := .fields #[.ref a, .int 0 0] }
theorem sqA_lay {X : Cx} {pins : List (Addr × Obj)} {σ : L2.St} {H : Hp} {s : Shared} {t : Bool} {a : Addr} {vs : List V} (I : Inv X pins σ H s) (h : SqA X.K t H a vs) : ∃ us : List Value, Vals vs us ∧ isSq t s.heap a us.toArray ∧ vs.length ≤ sizeLine := by
  cases t with
  | true => obtain ⟨us, r, p, z⟩ := I.tuple h; exact ⟨us, r, p, z⟩
  | false => obtain ⟨us, r, p, z⟩ := I.list h; exact ⟨us, r, p.isList, z⟩
theorem sqA_inj {X : Cx} {pins : List (Addr × Obj)} {σ : L2.St} {H : Hp} {s : Shared} {t : Bool} {a : Addr} {vs ws : List V} (I : Inv X pins σ H s) (h : SqA X.K t H a vs) (g : SqA X.K t H a ws) : vs = ws := by
  cases t with
  | true => exact I.tuple_inj h g
  | false => exact I.list_inj h g
theorem itAt_apart {t : Bool} {h : Heap} {it a : Addr} {i : Nat} {items : Array Value} (x : itAt t h it a i) (y : isSq t h a items) : a ≠ it := by
  rintro rfl
  cases t with
  | true =>
    obtain ⟨o, e, c, _⟩ := x
    obtain ⟨o', e', c', _⟩ := y
    rw [e] at e'; cases e'
    rw [c] at c'; simp at c'
  | false =>
    obtain ⟨o, e, c, _⟩ := x
    obtain ⟨o', e', c', _⟩ := y
    rw [e] at e'; cases e'
    rw [c] at c'; simp at c'
theorem itAt_obj {t : Bool} {h : Heap} {it a : Addr} {i : Nat} (x : itAt t h it a i) : ∃ o, h.get? it = some o ∧ ∀ v, o.data ≠ .cell v := by
  cases t with
  | true => obtain ⟨o, e, _, d⟩ := x; exact ⟨o, e, fun v q => by rw [d] at q; cases q⟩
  | false => obtain ⟨o, e, _, d⟩ := x; exact ⟨o, e, fun v q => by rw [d] at q; cases q⟩
theorem itAt_keep {t : Bool} {h h' : Heap} {it a : Addr} {i : Nat} (x : itAt t h it a i) (k : ∀ o, h.get? it = some o → h'.get? it = some o) : itAt t h' it a i := by
  cases t with
  | true => obtain ⟨o, e, r⟩ := x; exact ⟨o, k o e, r⟩
  | false => obtain ⟨o, e, r⟩ := x; exact ⟨o, k o e, r⟩
theorem draws_of {prog : Program} {w : World} {A : Around} (hh : A.handled = none) {t : Bool} {it a : Addr} (ne : a ≠ it) (items : Array Value) : Draws prog w A it [it, a] items.size (fun i v => items[i]? = some v) (fun i h => itAt t h it a i ∧ isSq t h a items) := by
  cases t with
  | true => exact .tuple hh it a ne items
  | false => exact .list hh it a ne items
theorem begins_of (t : Bool) (a : Addr) (items : Array Value) : Begins (.ref a) (itNew t a) fun h => isSq t h a items := by
  cases t with
  | true => exact begins_tuple a items
  | false => exact begins_list a items
theorem itNew_at {t : Bool} {h : Heap} {it a : Addr} (e : h.get? it = some (itNew t a)) : itAt t h it a 0 := by
  cases t with
  | true => exact ⟨_, e, rfl, rfl⟩
  | false => exact ⟨_, e, rfl, rfl⟩

/-! ### from such a thing to what a loop goes over -/
/-- G i H: there is an i-th turn; J i H vs: vs is what its tuple holds; S i H: there is none -/
def itW (G : Nat → Hp → Prop) (J : Nat → Hp → List V → Prop) (S : Nat → Hp → Prop) : It :=
  ⟨G, fun i H v H' => ∃ T vs, v = .ref T ∧ H T = none ∧ H' = upd H T (.tup vs) ∧ J i H vs, S⟩
/-- at a turn: the thing as one that walks -/
structure AtTurn (X : Cx) (H : Hp) (h : Heap) (e : Addr) (fp : List Addr) (tn : Nat → Heap → Prop) (J : Nat → Hp → List V → Prop) (i : Nat) (more : Bool) : Prop where
  ex : ∃ (fw wr : List Addr) (n : Nat) (Pt : Nat → Array Value → Prop) (St : Nat → Heap → Prop) (Mid : Nat → Addr → Heap → Prop), WalksT X.prog X.w X.A e fw wr n Pt St Mid ∧ (∀ b ∈ wr, b ∈ fp) ∧ (if more = true then i < n else i = n) ∧ St i h ∧
    (∀ vals, Pt i vals → ∃ (vs : List V) (us : List Value), J i H vs ∧ vals = us.toArray ∧ Vals vs us ∧ vs.length ≤ sizeLine) ∧ ∀ h', St (i + 1) h' → tn (i + 1) h'
theorem turn_of {P : Program} {w : World} {K : PySem.W.Frag} {elts : List Expr} {kk : Nat} {tpos : Pos} {e : Addr} {fp : List Addr} {tn : Nat → Heap → Prop} {G : Nat → Hp → Prop} {J : Nat → Hp → List V → Prop} {S : Nat → Hp → Prop} (mem : e ∈ fp)
    (obj : ∀ i h, tn i h → ∀ b ∈ fp, ∃ o, h.get? b = some o ∧ ∀ v, o.data ≠ .cell v) (keep : ∀ i h h', tn i h → (∀ b ∈ fp, ∀ o, h.get? b = some o → h'.get? b = some o) → tn i h')
    (go : ∀ (X : Cx), X.prog = P → X.w = w → X.K = K → X.A.handled = none → ∀ i pins (s : Shared) (σ : L2.St) (H : Hp), Inv X pins σ H s → tn i s.heap → G i H → AtTurn X H s.heap e fp tn J i true)
    (stop : ∀ (X : Cx), X.prog = P → X.w = w → X.K = K → X.A.handled = none → ∀ i pins (s : Shared) (σ : L2.St) (H : Hp), Inv X pins σ H s → tn i s.heap → S i H → AtTurn X H s.heap e fp tn J i false)
    (self : ∀ (A : Around) (i : Nat) (s : Shared) (Q E : Value → Shared → Prop), tn i s.heap → Q (.ref e) s → wpAny (model P w) A (pyIter (.ref e)) Q E s) : Turn P w K (.Tuple elts kk tpos) (itW G J S) fp e tn where
  mem := mem
  obj := obj
  keep := keep
  self := self
  item := by
    intro X hP hw hK hc i pins s σ H E I hf st hg
    obtain ⟨fw, wr, n, Pt, St, Mid, W, sub, lt, at_, tell, next⟩ := (go X hP hw hK (I.ok.hd hc) i pins s σ H I st hg).ex
    subst hP hw hK
    rw [if_pos rfl] at lt
    refine W.item i s _ _ lt at_ fun T vals h1 tk hv hT hI hm k1 => ?_
    refine ⟨.ref T, rfl, W.go elts kk tpos i T { s with heap := h1, toks := tk } _ _ hm fun h2 st2 k2 => ?_⟩
    obtain ⟨vs, us, hJ, rfl, rel, small⟩ := tell vals hv
    have lay : IsTup h2 T us.toArray := by
      obtain ⟨o, eo, r⟩ := hI
      exact ⟨o, k2 T o (W.apart i T h1 hm) eo, r⟩
    have new : ObjOk X.prog X.w (upd H T (.tup vs)) h2 T (.tup vs) := ⟨small, us, rel, lay⟩
    have I2 := I.turnedNew (t' := tk) (h' := h2) (ch := wr) (fun b o hb eo => k2 b o hb (k1 b o hb eo)) (fun b hb => hf b (sub b hb)) hT new
    refine ⟨.ref T, _, I2, rfl, ⟨T, vs, rfl, I.hok.fresh hT, rfl, hJ⟩, next h2 st2, fun b hb => ?_⟩
    obtain ⟨o, eo, _⟩ := obj i s.heap st b hb
    have small' : b < T := Nat.lt_of_lt_of_le (Heap.lt_size eo) hT
    rw [upd_ne (Nat.ne_of_lt small')]
    exact (hf b hb).1
  done := by
    intro X hP hw hK hc i pins s σ H E I hf st hg
    obtain ⟨fw, wr, n, Pt, St, Mid, W, sub, eq, at_, _, _⟩ := (stop X hP hw hK (I.ok.hd hc) i pins s σ H I st hg).ex
    subst hP hw hK
    rw [if_neg (by decide)] at eq
    subst eq
    exact W.done s _ _ at_ fun h1 tk k1 => ⟨rfl, I.turnedL (t' := tk) (ch := wr) k1 fun b hb => hf b (sub b hb)⟩

/-! ### enumerate -/
def goE (K : PySem.W.Frag) (t : Bool) (a : Addr) (i : Nat) (H : Hp) : Prop := ∃ xs, SqA K t H a xs ∧ i < xs.length
def jE (K : PySem.W.Frag) (t : Bool) (a : Addr) (i : Nat) (H : Hp) (vs : List V) : Prop := ∃ x, vs = [.int (i : Nat), x] ∧ ∀ xs, SqA K t H a xs → xs[i]? = some x
def sOne (K : PySem.W.Frag) (t : Bool) (a : Addr) (i : Nat) (H : Hp) : Prop := ∃ xs, SqA K t H a xs ∧ xs.length = i
def tnE (t : Bool) (a e it : Addr) (i : Nat) (h : Heap) : Prop := (∃ old, IsEnum h e it (0 + (i : Int)) old) ∧ itAt t h it a i ∧ e ≠ it
theorem enum_at {X : Cx} {pins : List (Addr × Obj)} {σ : L2.St} {H : Hp} {s : Shared} {t : Bool} {a e it : Addr} {i : Nat} {more : Bool} {xs : List V} (I : Inv X pins σ H s) (hh : X.A.handled = none) (st : tnE t a e it i s.heap) (sq : SqA X.K t H a xs) (hl : if more = true then i < xs.length else i = xs.length) :
    AtTurn X H s.heap e [e, it] (tnE t a e it) (jE X.K t a) i more := by
  obtain ⟨us, rel, lay, small⟩ := sqA_lay I sq
  obtain ⟨⟨old, he⟩, hit, ne⟩ := st
  have ap := itAt_apart hit lay
  have ae : e ≠ a := by
    rintro rfl
    cases t with
    | true => obtain ⟨o, z, c, _⟩ := lay; rw [he] at z; cases z; simp at c
    | false => obtain ⟨o, z, c, _⟩ := lay; rw [he] at z; cases z; simp at c
  have D := draws_of (prog := X.prog) (w := X.w) (A := X.A.in1) (t := t) (show X.A.in1.handled = none from hh) ap us.toArray
  have len : xs.length = us.toArray.size := by rw [rel.length]; simp
  refine ⟨_, _, _, _, _, _, WalksT.enumFrom 0 D e ne (by simp [ne, ae]) (by simp), fun b hb => hb, ?_, ⟨⟨old, he⟩, hit, lay⟩, fun vals hv => ?_, fun h1 st1 => ⟨st1.1, st1.2.1, ne⟩⟩
  · rw [← len]; exact hl
  · obtain ⟨tk, x, hx, rfl⟩ := hv
    have hx' : us[i]? = some x := by simpa using hx
    have hi : i < xs.length := by rw [rel.length]; exact (List.getElem?_eq_some_iff.mp hx').1
    obtain ⟨u, hu, ru⟩ := rel.get (List.getElem?_eq_getElem hi)
    rw [hx'] at hu
    cases hu
    refine ⟨[.int (i : Nat), xs[i]], [.int (0 + (i : Int)) tk, x], ⟨_, rfl, fun ys hy => by rw [← sqA_inj I sq hy]; exact List.getElem?_eq_getElem hi⟩, rfl, .cons ⟨tk, by rw [Int.zero_add]⟩ (.cons ru .nil), by show 2 ≤ sizeLine; decide⟩
theorem turn_enumA {P : Program} {w : World} {K : PySem.W.Frag} {elts : List Expr} {kk : Nat} {tpos : Pos} (t : Bool) (a e it : Addr) : Turn P w K (.Tuple elts kk tpos) (itW (goE K t a) (jE K t a) (sOne K t a)) [e, it] e (tnE t a e it) :=
  turn_of (by simp) (fun i h st b hb => by
      obtain ⟨⟨old, he⟩, hit, _⟩ := st
      rcases List.mem_cons.mp hb with rfl | hb
      · exact ⟨_, he, fun v q => nomatch q⟩
      · rw [List.mem_singleton.mp hb]; exact itAt_obj hit)
    (fun i h h' st k => ⟨st.1.imp fun old he => k e (by simp) _ he, itAt_keep st.2.1 fun o q => k it (by simp) o q, st.2.2⟩)
    (fun X hP hw hK hh i pins s σ H I st ⟨xs, sq, hx⟩ => by
      subst hK
      exact enum_at I hh st sq (by rw [if_pos rfl]; exact hx))
    (fun X hP hw hK hh i pins s σ H I st ⟨xs, sq, hx⟩ => by
      subst hK
      exact enum_at I hh st sq (by rw [if_neg (by decide)]; exact hx.symm))
    (fun A i s Q E st h => let ⟨⟨_, he⟩, _⟩ := st; wpAny_pyIter_enum he h)
end DL
end
section
namespace DL
open PySem PySem.Spec PyProof.Rows L2
/-- enumerate(v) of one argument, v anything that begins an iterator -/
theorem meets_enum1 {v : Value} {o : Obj} {Hc : Heap → Prop} (B : Begins v o Hc) : Meets (Builtin.«enumerate.__new__» ⟨[.type "enumerate", v], []⟩) (fun _ R s => Hc s.heap ∧
    R (.ok (.ret (.ref (s.heap.push o).objs.size))) { s with heap := (s.heap.push o).push { cls := .type "enumerate", data := .fields #[.none, .bool false, .ref s.heap.objs.size, rawInt 0, .none, .none] } }) := .of_wp fun prog w A R s both => by
  obtain ⟨pre, post⟩ := both
  obtain ⟨hp, g, d, tk, os⟩ := s
  have hsub := sub_enumerate
  have first : ∀ {A2 : Around} {E2 : Value → Shared → Prop} {Q2 : Value → Shared → Prop}, Q2 (.ref hp.objs.size) ⟨hp.push o, g, d, tk, os⟩ → wpAny (model prog w) A2 (pyIter v) Q2 E2 ⟨hp, g, d, tk, os⟩ := fun q => B.iter prog w _ _ _ _ pre q
  wp_walk using first
  refine wpAny_stack_any fun below => wpAny_pure ?_
  split
  · rename_i c _ _ _ _ _
    cases same : (c == Value.type "enumerate")
    all_goals (wp_walk using first; exact ⟨_, rfl, post⟩)
  · wp_walk using first
    exact ⟨_, rfl, post⟩
theorem enum_call {prog : Program} {w : World} {A : Around} {E Q : Value → Shared → Prop} {s : Shared} {t : Bool} {a : Addr} {items : Array Value} (lay : isSq t s.heap a items)
    (h : ∀ h2, IsEnum h2 (s.heap.objs.size + 1) s.heap.objs.size 0 .none → itAt t h2 s.heap.objs.size a 0 → (∀ b o, s.heap.get? b = some o → h2.get? b = some o) → Q (.ref (s.heap.objs.size + 1)) { s with heap := h2 }) :
    wpAny (model prog w) A (call (.type "enumerate") [.ref a]) Q E s := by
  have B := begins_of t a items
  have size1 : (s.heap.push (itNew t a)).objs.size = s.heap.objs.size + 1 := Heap.size_push ..
  refine callType_new F.called_enumerate (by decide) (F.typeCall_enumerate_1 _) (F.newCall_enumerate_1 _) (fun obj => F.args_object_init_2 obj _) F.entry_enumerate_new (meets_enum1 B) ⟨lay, ?_⟩
  have top := Heap.get?_push_size (s.heap.push (itNew t a)) (o := { cls := .type "enumerate", data := .fields #[.none, .bool false, .ref s.heap.objs.size, rawInt 0, .none, .none] }) rfl
  have low := Heap.get?_push_size s.heap (o := itNew t a) B.free
  rw [size1] at top
  show _ ∧ Q (.ref (s.heap.push (itNew t a)).objs.size) _
  rw [size1]
  exact ⟨⟨_, top, rfl⟩, h _ top (itNew_at (Heap.get?_push_of_some _ low)) fun b o e => Heap.get?_push_of_some _ (Heap.get?_push_of_some _ e)⟩
def iE (K : PySem.W.Frag) (ta : TA) : TI := fun σ H R => ta σ H fun vs H1 => ∃ t a xs, vs = [.ref a] ∧ SqA K t H1 a xs ∧ R (itW (goE K t a) (jE K t a) (sOne K t a)) H1
theorem pi_enumA {X : Cx} {e : Expr} {ta : TA} {p pos tpos : Pos} {elts : List Expr} {kk : Nat} (hg : Gl X "enumerate") (hm : X.mg "enumerate" = none) (ha : PA X [e] ta) (hs : starEach [e] X.env = [(false, eval e X.env)] := by rfl) :
    PI X (.Tuple elts kk tpos) (.Call (.Name "enumerate" p) [e] [] pos) (iE X.K ta) := ⟨fun pins s σ H R I h => by
  refine Call_ (ld_blt I hg hm boot_enumerate (PyProof.Rows.callWith_type1 (thn (ha.run pos pins s σ H _ I h) fun us s1 ⟨vs, H1, I1, rel, t, a, xs, ex, sq, q⟩ => ?_) hs rfl))
  subst ex
  obtain _ | ⟨r, rr⟩ := rel
  cases rr
  cases r
  obtain ⟨_, _, lay, _⟩ := sqA_lay I1 sq
  refine enum_call lay fun h2 he hi k => wpAny_pyIter_enum he ⟨s1.heap.objs.size + 1, [s1.heap.objs.size + 1, s1.heap.objs.size], _, _, H1, rfl, I1.kept (t' := s1.toks) k, turn_enumA t a _ _, ⟨⟨.none, he⟩, hi, Nat.succ_ne_self _⟩, fun b hb => ?_, q⟩
  have le : s1.heap.objs.size ≤ b := by
    simp only [List.mem_cons, List.not_mem_nil, or_false] at hb
    rcases hb with rfl | rfl
    · exact Nat.le_succ _
    · exact Nat.le_refl _
  exact I1.fpOk le (I1.hok.fresh le)⟩

/-! ### zip of two, of three -/
def goZ2 (K : PySem.W.Frag) (t1 t2 : Bool) (a1 a2 : Addr) (i : Nat) (H : Hp) : Prop := ∃ xs ys, SqA K t1 H a1 xs ∧ SqA K t2 H a2 ys ∧ i < xs.length ∧ i < ys.length
def jZ2 (K : PySem.W.Frag) (t1 t2 : Bool) (a1 a2 : Addr) (i : Nat) (H : Hp) (vs : List V) : Prop := ∃ x y, vs = [x, y] ∧ (∀ xs, SqA K t1 H a1 xs → xs[i]? = some x) ∧ ∀ ys, SqA K t2 H a2 ys → ys[i]? = some y
def sZ2 (K : PySem.W.Frag) (t1 t2 : Bool) (a1 a2 : Addr) (i : Nat) (H : Hp) : Prop := ∃ xs ys, SqA K t1 H a1 xs ∧ SqA K t2 H a2 ys ∧ min xs.length ys.length = i
structure tnZ2 (t1 t2 : Bool) (a1 a2 z TI TO i1 i2 : Addr) (i : Nat) (h : Heap) : Prop where
  sep : ZipSep2 z TI TO i1 i2 [i1, a1] [i2, a2]
  z : IsZip h z TI TO .none
  ti : IsTupOf2 h TI (.ref i1) (.ref i2)
  to : ∃ x y, IsTupOf2 h TO x y
  p1 : itAt t1 h i1 a1 i
  p2 : itAt t2 h i2 a2 i
theorem zip2_at {X : Cx} {pins : List (Addr × Obj)} {σ : L2.St} {H : Hp} {s : Shared} {t1 t2 : Bool} {a1 a2 z TI TO i1 i2 : Addr} {i : Nat} {more : Bool} {xs ys : List V} (I : Inv X pins σ H s) (hh : X.A.handled = none) (st : tnZ2 t1 t2 a1 a2 z TI TO i1 i2 i s.heap)
    (s1 : SqA X.K t1 H a1 xs) (s2 : SqA X.K t2 H a2 ys) (hl : if more = true then i < min xs.length ys.length else i = min xs.length ys.length) :
    AtTurn X H s.heap z [z, TI, TO, i1, i2] (tnZ2 t1 t2 a1 a2 z TI TO i1 i2) (jZ2 X.K t1 t2 a1 a2) i more := by
  obtain ⟨us, rel1, lay1, _⟩ := sqA_lay I s1
  obtain ⟨ws, rel2, lay2, _⟩ := sqA_lay I s2
  have D1 := draws_of (prog := X.prog) (w := X.w) (A := X.A.in1) (t := t1) (show X.A.in1.handled = none from hh) (itAt_apart st.p1 lay1) us.toArray
  have D2 := draws_of (prog := X.prog) (w := X.w) (A := X.A.in1) (t := t2) (show X.A.in1.handled = none from hh) (itAt_apart st.p2 lay2) ws.toArray
  have l1 : xs.length = us.toArray.size := by rw [rel1.length]; simp
  have l2 : ys.length = ws.toArray.size := by rw [rel2.length]; simp
  refine ⟨_, _, _, _, _, _, WalksT.zipD2 st.sep D1 D2, fun b hb => ?_, ?_, ⟨st.z, st.ti, st.to, ⟨st.p1, lay1⟩, st.p2, lay2⟩, fun vals hv => ?_, fun h1 q => ⟨st.sep, q.1, q.2.1, q.2.2.1, q.2.2.2.1.1, q.2.2.2.2.1⟩⟩
  · simp only [List.mem_cons, List.not_mem_nil, or_false] at hb ⊢
    rcases hb with rfl | rfl | rfl | rfl <;> simp
  · rw [← l1, ← l2]; exact hl
  · obtain ⟨x, y, hx, hy, rfl⟩ := hv
    have hx' : us[i]? = some x := by simpa using hx
    have hy' : ws[i]? = some y := by simpa using hy
    have i1' : i < xs.length := by rw [rel1.length]; exact (List.getElem?_eq_some_iff.mp hx').1
    have i2' : i < ys.length := by rw [rel2.length]; exact (List.getElem?_eq_some_iff.mp hy').1
    obtain ⟨u, hu, ru⟩ := rel1.get (List.getElem?_eq_getElem i1')
    obtain ⟨v, hv, rv⟩ := rel2.get (List.getElem?_eq_getElem i2')
    rw [hx'] at hu
    rw [hy'] at hv
    cases hu
    cases hv
    exact ⟨[xs[i], ys[i]], [x, y], ⟨_, _, rfl, fun zs hz => by rw [← sqA_inj I s1 hz]; exact List.getElem?_eq_getElem i1', fun zs hz => by rw [← sqA_inj I s2 hz]; exact List.getElem?_eq_getElem i2'⟩, rfl, .cons ru (.cons rv .nil), by show 2 ≤ sizeLine; decide⟩
theorem turn_zip2 {P : Program} {w : World} {K : PySem.W.Frag} {elts : List Expr} {kk : Nat} {tpos : Pos} (t1 t2 : Bool) (a1 a2 z TI TO i1 i2 : Addr) : Turn P w K (.Tuple elts kk tpos) (itW (goZ2 K t1 t2 a1 a2) (jZ2 K t1 t2 a1 a2) (sZ2 K t1 t2 a1 a2)) [z, TI, TO, i1, i2] z (tnZ2 t1 t2 a1 a2 z TI TO i1 i2) :=
  turn_of (by simp) (fun i h st b hb => by
      simp only [List.mem_cons, List.not_mem_nil, or_false] at hb
      rcases hb with rfl | rfl | rfl | rfl | rfl
      · exact ⟨_, st.z, fun v q => nomatch q⟩
      · exact ⟨_, st.ti, fun v q => nomatch q⟩
      · obtain ⟨x, y, q⟩ := st.to; exact ⟨_, q, fun v q => nomatch q⟩
      · exact itAt_obj st.p1
      · exact itAt_obj st.p2)
    (fun i h h' st k => ⟨st.sep, k _ (by simp) _ st.z, k _ (by simp) _ st.ti, st.to.imp fun x q => q.imp fun y q => k _ (by simp) _ q, itAt_keep st.p1 fun o q => k _ (by simp) o q, itAt_keep st.p2 fun o q => k _ (by simp) o q⟩)
    (fun X hP hw hK hh i pins s σ H I st ⟨xs, ys, s1, s2, hx, hy⟩ => by
      subst hK
      refine zip2_at I hh st s1 s2 ?_
      rw [if_pos rfl]
      omega)
    (fun X hP hw hK hh i pins s σ H I st ⟨xs, ys, s1, s2, hx⟩ => by
      subst hK
      exact zip2_at I hh st s1 s2 (by rw [if_neg (by decide)]; exact hx.symm))
    (fun A i s Q E st h => wpAny_pyIter_zip st.z h)
def iZ2 (K : PySem.W.Frag) (ta : TA) : TI := fun σ H R => ta σ H fun vs H1 => ∃ t1 t2 a1 a2 xs ys, vs = [.ref a1, .ref a2] ∧ SqA K t1 H1 a1 xs ∧ SqA K t2 H1 a2 ys ∧ R (itW (goZ2 K t1 t2 a1 a2) (jZ2 K t1 t2 a1 a2) (sZ2 K t1 t2 a1 a2)) H1
theorem isSq_lt {t : Bool} {h : Heap} {a : Addr} {items : Array Value} (x : isSq t h a items) : a < h.objs.size := by
  cases t with
  | true => obtain ⟨o, e, _⟩ := x; exact Heap.lt_size e
  | false => obtain ⟨o, e, _⟩ := x; exact Heap.lt_size e
theorem pi_zip2A {X : Cx} {e1 e2 : Expr} {ta : TA} {p pos tpos : Pos} {elts : List Expr} {kk : Nat} (hg : Gl X "zip") (hm : X.mg "zip" = none) (ha : PA X [e1, e2] ta)
    (hs : starEach [e1, e2] X.env = (false, eval e1 X.env) :: starEach [e2] X.env := by rfl) (hpl : (backTo pos (starEach [e2] X.env)).any (·.1) = false := by rfl) :
    PI X (.Tuple elts kk tpos) (.Call (.Name "zip" p) [e1, e2] [] pos) (iZ2 X.K ta) := ⟨fun pins s σ H R I h => by
  refine Call_ (ld_blt I hg hm PyProof.Rows.boot_zip (PyProof.Rows.callWith_type1 (thn (ha.run pos pins s σ H _ I h) fun us s1 ⟨vs, H1, I1, rel, t1, t2, a1, a2, xs, ys, ex, sq1, sq2, q⟩ => ?_) hs hpl))
  subst ex
  obtain _ | ⟨r, _ | ⟨r', rr⟩⟩ := rel
  cases rr
  cases r
  cases r'
  obtain ⟨u1, _, lay1, _⟩ := sqA_lay I1 sq1
  obtain ⟨u2, _, lay2, _⟩ := sqA_lay I1 sq2
  refine zip_begins2 (begins_of t1 a1 u1.toArray) (begins_of t2 a2 u2.toArray) lay1 lay2 fun h2 hz hti hto g1 g2 hsz k => wpAny_pyIter_zip hz ?_
  have sep := zip_sep2 (N := s1.heap.objs.size) (fp1 := [a1]) (fp2 := [a2]) (fun b hb => by rw [List.mem_singleton.mp hb]; exact isSq_lt lay1) (fun b hb => by rw [List.mem_singleton.mp hb]; exact isSq_lt lay2)
  refine ⟨s1.heap.objs.size + 4, _, _, _, H1, rfl, I1.kept (t' := s1.toks) k, turn_zip2 t1 t2 a1 a2 _ _ _ _ _, ⟨sep, hz, hti, ⟨_, _, hto⟩, itNew_at g1, itNew_at g2⟩, fun b hb => ?_, q⟩
  have le : s1.heap.objs.size ≤ b := by
    simp only [List.mem_cons, List.not_mem_nil, or_false] at hb
    rcases hb with rfl | rfl | rfl | rfl | rfl
    · exact Nat.le_add_right _ _
    · exact Nat.le_add_right _ _
    · exact Nat.le_add_right _ _
    · exact Nat.le_refl _
    · exact Nat.le_add_right _ _
  exact I1.fpOk le (I1.hok.fresh le)⟩
end DL
end
section
namespace DL
open PySem PySem.Spec PyProof.Rows L2
/-! ### enumerate and zip as data -/
section
variable {K : PySem.W.Frag} {μ : Mu} {ν : List Addr} {H : Hp} {st : Sto}
theorem seen_sqA {t : Bool} {a : Addr} {vs : List V} {ν' : List Addr} {μ' : Mu} {H' : Hp} (h : SqA K t (hid μ ν H) a vs) (e : Seen ν μ H ν' μ' H') : SqA K t H' a vs := by
  cases t with
  | true => exact seen_sqT h e
  | false => exact seen_sqL h e
/-- a list or a tuple that stays as it is -/
def seqA : D → Option (Bool × List D)
  | .lst xs => some (false, xs)
  | .fl xs => some (false, xs)
  | .tup xs => some (true, xs)
  | _ => none
theorem seqA_rep {d : D} {v : V} {t : Bool} {xs : List D} (h : Rep K μ (hid μ ν H) d v) (e : seqA d = some (t, xs)) : ∃ a vs, v = .ref a ∧ SqA K t (hid μ ν H) a vs ∧ Reps K μ (hid μ ν H) xs vs := by
  unfold seqA at e
  split at e
  · cases e
    unfold Rep at h
    obtain ⟨a, vs, rfl, h2, _, h4⟩ := h
    exact ⟨a, vs, rfl, .inl (.inl h2), h4⟩
  · cases e
    unfold Rep at h
    obtain ⟨a, vs, rfl, h2, _, h4⟩ := h
    exact ⟨a, vs, rfl, h2, h4⟩
  · cases e
    unfold Rep at h
    obtain ⟨a, vs, rfl, h2, _, h4⟩ := h
    exact ⟨a, vs, rfl, h2, h4⟩
  · cases e
theorem sqA_hid {t : Bool} {a : Addr} {vs : List V} (h : SqA K t (hid μ ν H) a vs) : SqA K t H a vs := by
  cases t with
  | true => exact sqT_same hid_sub h
  | false => exact hid_sub.seq h
theorem gives_enumA {t : Bool} {a : Addr} {vs : List V} {xs : List D} (h : SqA K t (hid μ ν H) a vs) (r : Reps K μ (hid μ ν H) xs vs) : Gives K ν μ H (itW (goE K t a) (jE K t a) (sOne K t a)) (enumD xs) where
  go := fun i ν' μ' H' e hi => by
    rw [enumD_len, r.len] at hi
    exact ⟨vs, seen_sqA h e, hi⟩
  stop := fun ν' μ' H' e => ⟨vs, seen_sqA h e, by rw [enumD_len, r.len]⟩
  yld := fun i ν' μ' H' st x H2 e s hi ⟨T, ws, e1, nT, e2, v, e3, q⟩ => by
    subst e1; subst e2; subst e3
    obtain ⟨d, h1, h2⟩ := r.get' (q vs (seen_sqA h e))
    exact ⟨_, enumD_get h1, s.ext_new nT, s.new nT, rep_pair s (Rep.mono e.mu e.same d v h2) nT⟩
def zip2D (xs ys : List D) : List D := (xs.zip ys).map fun p => D.tup [p.1, p.2]
theorem zip2D_len {xs ys : List D} : (zip2D xs ys).length = min xs.length ys.length := by unfold zip2D; rw [List.length_map, List.length_zip]
theorem gives_zip2A {t1 t2 : Bool} {a b : Addr} {vs ws : List V} {xs ys : List D} (h : SqA K t1 (hid μ ν H) a vs) (g : SqA K t2 (hid μ ν H) b ws) (r : Reps K μ (hid μ ν H) xs vs) (r2 : Reps K μ (hid μ ν H) ys ws) :
    Gives K ν μ H (itW (goZ2 K t1 t2 a b) (jZ2 K t1 t2 a b) (sZ2 K t1 t2 a b)) (zip2D xs ys) where
  go := fun i ν' μ' H' e hi => by
    rw [zip2D_len, r.len, r2.len] at hi
    exact ⟨vs, ws, seen_sqA h e, seen_sqA g e, by omega, by omega⟩
  stop := fun ν' μ' H' e => ⟨vs, ws, seen_sqA h e, seen_sqA g e, by rw [zip2D_len, r.len, r2.len]⟩
  yld := fun i ν' μ' H' st x H2 e s hi ⟨T, us, e1, nT, e2, v, w, e3, q, q2⟩ => by
    subst e1; subst e2; subst e3
    obtain ⟨d, h1, h2⟩ := r.get' (q vs (seen_sqA h e))
    obtain ⟨d2, g1, g2⟩ := r2.get' (q2 ws (seen_sqA g e))
    refine ⟨_, zip_get h1 g1, s.ext_new nT, s.new nT, ?_⟩
    exact rep_tup s nT (by show 2 ≤ sizeLine; decide) (.cons (Rep.mono e.mu e.same d v h2) (.one (Rep.mono e.mu e.same d2 w g2)))
end
section
variable {X : Cx} {E : XK}
def enA (ds : List D) : M (List D) := fun st => match ds with
  | [d] => match seqA d with
    | some (_, xs) => some (.ok (enumD xs) st)
    | none => none
  | _ => none
def iEnA (f : En → M (List D)) : ItF := fun δ => (f δ).bind enA
theorem di_enumA {e : Expr} {f : En → M (List D)} {p pos tpos : Pos} {elts : List Expr} {kk : Nat} (hg : Gl X "enumerate") (hm : X.mg "enumerate" = none) (ha : DA X E [e] f) (hs : starEach [e] X.env = [(false, eval e X.env)] := by rfl) :
    DI X E (.Tuple elts kk tpos) (.Call (.Name "enumerate" p) [e] [] pos) (iEnA f) := pi_imp (pi_enumA hg hm ha hs) fun σ H Q ⟨μ, ν, δ, st, S, o⟩ => by
  refine ⟨μ, ν, δ, st, S, o.fst.imp fun ds st1 μ1 H1 e1 s1 o1 ws hv => ?_⟩
  unfold enA at o1
  split at o1
  · obtain ⟨v, rfl, h⟩ := reps_one hv
    split at o1
    · rename_i t xs hx
      obtain ⟨a, us, rfl, h2, h3⟩ := seqA_rep h hx
      exact ⟨t, a, us, rfl, sqA_hid h2, o1.now s1 _ (gives_enumA h2 h3)⟩
    · exact o1.elim
  · exact o1.elim
def zpA (ds : List D) : M (List D) := fun st => match ds with
  | [d, d2] => match seqA d, seqA d2 with
    | some (_, xs), some (_, ys) => some (.ok (zip2D xs ys) st)
    | _, _ => none
  | _ => none
def iZpA (f : En → M (List D)) : ItF := fun δ => (f δ).bind zpA
theorem di_zipA {e e2 : Expr} {f : En → M (List D)} {p pos tpos : Pos} {elts : List Expr} {kk : Nat} (hg : Gl X "zip") (hm : X.mg "zip" = none) (ha : DA X E [e, e2] f)
    (hs : starEach [e, e2] X.env = (false, eval e X.env) :: starEach [e2] X.env := by rfl) (hpl : (backTo pos (starEach [e2] X.env)).any (·.1) = false := by rfl) :
    DI X E (.Tuple elts kk tpos) (.Call (.Name "zip" p) [e, e2] [] pos) (iZpA f) := pi_imp (pi_zip2A hg hm ha hs hpl) fun σ H Q ⟨μ, ν, δ, st, S, o⟩ => by
  refine ⟨μ, ν, δ, st, S, o.fst.imp fun ds st1 μ1 H1 e1 s1 o1 ws hv => ?_⟩
  unfold zpA at o1
  split at o1
  · obtain ⟨v, v2, rfl, h, g⟩ := reps_two hv
    split at o1
    · rename_i t xs t2 ys hx hy
      obtain ⟨a, us, rfl, h2, h3⟩ := seqA_rep h hx
      obtain ⟨b, ws, rfl, g2, g3⟩ := seqA_rep g hy
      exact ⟨t, t2, a, b, us, ws, rfl, sqA_hid h2, sqA_hid g2, o1.now s1 _ (gives_zip2A h2 g2 h3 g3)⟩
    · exact o1.elim
  · exact o1.elim
end
end DL
end
section
namespace DL
open PySem PySem.Spec PyProof.Rows L2
/-! ### any, all, sum over a list or a tuple -/
section
variable {K : PySem.W.Frag} {μ : Mu} {ν : List Addr} {H : Hp} {st : Sto}
/-- a list (also of the store) or a tuple, as it stands now -/
def asA (st : Sto) (d : D) : Option (Bool × List D) := match asT d with
  | some xs => some (true, xs)
  | none => match asL st d with
    | some xs => some (false, xs)
    | none => none
theorem asA_rep (S : StoOk K μ ν H st) {d : D} {v : V} {t : Bool} {xs : List D} (h : Rep K μ (hid μ ν H) d v) (e : asA st d = some (t, xs)) : ∃ a vs, v = .ref a ∧ SqA K t H a vs ∧ xs.length ≤ sizeLine ∧ Reps K μ (hid μ ν H) xs vs := by
  unfold asA at e
  split at e
  · rename_i ys hy
    cases e
    exact asT_rep h hy
  · split at e
    · rename_i ys hy
      cases e
      exact asL_rep S h hy
    · cases e
/-- the truth of ints and bools -/
def tr1 : D → Option Bool
  | .bl b => some b
  | .int i => some (i != 0)
  | _ => none
theorem tr1_rep {μ : Mu} {G : Hp} {d : D} {v : V} {b : Bool} (h : Rep K μ G d v) (e : tr1 d = some b) : v = .bl b ∨ ∃ i : Int, v = .int i ∧ b = (i != 0) := by
  cases d with
  | bl x => cases e; exact .inl (rep_bl h)
  | int i => cases e; exact .inr ⟨i, rep_int h, rfl⟩
  | _ => cases e
end
theorem walks_of {prog : Program} {w : World} {A : Around} (hh : A.handled = none) {t : Bool} {it a : Addr} (ne : a ≠ it) (items : Array Value) : Walks prog w A it [it, a] [it] items.size (fun i v => items[i]? = some v) (fun i h => itAt t h it a i ∧ isSq t h a items) := by
  cases t with
  | true => exact .tuple hh it a ne items
  | false => exact .list hh it a ne items
theorem sq_keep {t : Bool} {h h' : Heap} {a : Addr} {items : Array Value} (x : isSq t h a items) (k : ∀ o, h.get? a = some o → h'.get? a = some o) : isSq t h' a items := by
  cases t with
  | true => obtain ⟨o, e, r⟩ := x; exact ⟨o, k o e, r⟩
  | false => obtain ⟨o, e, r⟩ := x; exact ⟨o, k o e, r⟩
section
variable {X : Cx} {E : XK}
theorem truth_at {K : PySem.W.Frag} {μ : Mu} {G : Hp} {prog : Program} {w : World} {A : Around} {xs : List D} {vs : List V} {us : List Value} {bs : List Bool} (r : Reps K μ G xs vs) (rel : Vals vs us) (e : allM tr1 xs = some bs) :
    TruthOf prog w A (fun i v => us.toArray[i]? = some v) (fun i => bs.getD i false) := by
  have len : ∀ {l : List D} {b : List Bool}, allM tr1 l = some b → l.length = b.length := by
    intro l
    induction l with
    | nil => intro b h; cases h; rfl
    | cons x l ih => intro b h; obtain ⟨y, ys, rfl, _, h2⟩ := allM_cons h; rw [List.length_cons, List.length_cons, ih h2]
  have at_ : ∀ {l : List D} {b : List Bool} (i : Nat) (x : D), allM tr1 l = some b → l[i]? = some x → ∃ y, b[i]? = some y ∧ tr1 x = some y := by
    intro l
    induction l with
    | nil => intro b i x _ h; simp at h
    | cons z l ih =>
      intro b i x h g
      obtain ⟨y, ys, rfl, h1, h2⟩ := allM_cons h
      cases i with
      | zero => simp at g; subst g; exact ⟨y, rfl, h1⟩
      | succ i => simp at g; obtain ⟨u, q1, q2⟩ := ih i x h2 g; exact ⟨u, by simpa using q1, q2⟩
  intro i v s Q E' hv hq
  have hv' : us[i]? = some v := by simpa using hv
  have hi : i < vs.length := by rw [rel.length]; exact (List.getElem?_eq_some_iff.mp hv').1
  obtain ⟨u, hu, ru⟩ := rel.get (List.getElem?_eq_getElem hi)
  rw [hv'] at hu
  cases hu
  obtain ⟨d, hd, hr⟩ := r.get' (List.getElem?_eq_getElem hi)
  obtain ⟨b, hb, ht⟩ := at_ i d e hd
  have hg : bs.getD i false = b := by rw [List.getD_eq_getElem?_getD, hb]; rfl
  have hq' : Q (bs.getD i false) s := hq
  rw [hg] at hq'
  rcases tr1_rep hr ht with q | ⟨j, q, q2⟩
  · rw [q] at ru
    obtain rfl : v = Value.bool b := ru
    exact wpAny_truthy_bool hq'
  · rw [q] at ru
    obtain ⟨tk, rfl⟩ := ru
    rw [q2] at hq'
    exact PySem.P.truthy_int hq'
theorem allM_len {l : List D} {b : List Bool} (h : allM tr1 l = some b) : l.length = b.length := by
  induction l generalizing b with
  | nil => cases h; rfl
  | cons x l ih => obtain ⟨y, ys, rfl, _, h2⟩ := allM_cons h; rw [List.length_cons, List.length_cons, ih h2]
def anyA (ds : List D) : M D := fun st => match ds with
  | [d] => match asA st d with
    | some (_, xs) => match allM tr1 xs with
      | some bs => some (.ok (.bl (bs.any id)) st)
      | none => none
    | none => none
  | _ => none
theorem cd_anyA (hc : X.calm = true) : CallR X (.builtin "any") (rDs X.K E anyA) := by
  intro pins s σ H xs us Q I rel ⟨μ, ν, ds, st, S, r, o⟩
  unfold anyA at o
  split at o
  case h_2 => exact o.elim
  obtain ⟨v, rfl, h⟩ := reps_one r
  split at o
  case h_2 => exact o.elim
  rename_i t ys hx
  split at o
  case h_2 => exact o.elim
  rename_i bs hb
  obtain ⟨a, vs, rfl, sq, small, hr⟩ := asA_rep S h hx
  obtain ⟨ws, rv, lay, _⟩ := sqA_lay I sq
  rw [Vals.ref1 rel]
  have low : a < s.heap.objs.size := isSq_lt lay
  refine call_any_walk ((begins_of t a ws.toArray).iter _ _ _ _ s _ lay ⟨_, _, _, _, _, _, _, rfl, walks_of (A := X.A.in1) (I.ok.hd hc) (Nat.ne_of_lt low) ws.toArray, ⟨itNew_at (Heap.get?_push_size _ (begins_of t a ws.toArray).free), sq_keep lay fun o eo => Heap.get?_push_of_some _ eo⟩, truth_at hr rv hb, fun h' tk hk => ?_⟩)
  have same : (List.range ws.toArray.size).any (fun i => bs.getD i false) = bs.any id := by
    rw [← L2.any_range, show ws.toArray.size = bs.length by rw [← allM_len hb, hr.len, rv.length]; simp]
  rw [same]
  refine ⟨.bl _, H, I.kept fun b o eo => hk b o (fun hmem => ?_) (Heap.get?_push_of_some _ eo), rfl, o.now S _ to_bl⟩
  rcases List.mem_cons.mp hmem with e1 | hmem
  · exact absurd (e1 ▸ Heap.lt_size eo) (Nat.lt_irrefl _)
  · cases hmem
/-- sum of a list or tuple of ints -/
def sumA (ds : List D) : M D := fun st => match ds with
  | [d] => match asA st d with
    | some (_, xs) => match asInts xs with
      | some ns => some (.ok (.int ns.sum) st)
      | none => none
    | none => none
  | _ => none
theorem cd_sumA (hc : X.calm = true) : CallR X (.builtin "sum") (rDs X.K E sumA) := by
  intro pins s σ H xs us Q I rel ⟨μ, ν, ds, st, S, r, o⟩
  unfold sumA at o
  split at o
  case h_2 => exact o.elim
  obtain ⟨v, rfl, h⟩ := reps_one r
  split at o
  case h_2 => exact o.elim
  rename_i t ys hx
  split at o
  case h_2 => exact o.elim
  rename_i ns hn
  obtain ⟨a, vs, rfl, sq, small, hr⟩ := asA_rep S h hx
  rw [asInts_eq hn] at hr
  have ev := reps_ints hr
  subst ev
  obtain ⟨ws, rv, lay, _⟩ := sqA_lay I sq
  rw [Vals.ref1 rel]
  cases t with
  | false => exact sum_raw (I.ok.hd hc) lay rv.ints fun h' tk t' hk => ⟨.int _, H, I.kept hk, ⟨_, rfl⟩, o.now S _ to_int⟩
  | true =>
    obtain ⟨zs, ez⟩ := rv.ints.allInts.items
    have hz : numsOf (intItems zs).toList = ns := by rw [← ez]; exact rv.ints.numsOf
    rw [nums_intItems] at hz
    have lay' : s.heap.IsTuple a (intItems zs) := by rw [← ez]; exact lay
    refine PySem.W.ktm_sumG (I.ok.hd hc) lay' fun h' tk t' hk => ?_
    rw [preSum_eq, List.take_of_length_le (by simp), hz]
    exact ⟨.int _, H, I.kept hk, ⟨_, rfl⟩, o.now S _ to_int⟩
end
end DL
end
section
namespace DL
open PySem PySem.Spec PyProof.Rows L2
section
variable {X : Cx} {E : XK} {pos : Pos} {k : Nat} {f C : Addr} {fd : FuncData} {ps : List Str} {g : List D → M D}
/-! ### o + x, o - x, o * x by the class's own method -/
/-- the second one is of the class, too -/
def binOD (C : Addr) (g : List D → M D) (o x : D) : M D := fun st => match asI st x with
  | some (C', _) => if C' = C then ownM C g o [x] st else none
  | none => none
theorem back_of {Q : Value → Shared → Prop} {z : V} {r : Value} {s : Shared} (h : RelV z r) (q : Q r s) : PySem.W.CmpBack Q r s := by
  cases z with
  | non => cases (show r = Value.none from h); exact q
  | bl b => cases (show r = Value.bool b from h); exact q
  | int i => obtain ⟨t, rfl⟩ := h; exact q
  | str x => obtain ⟨t, rfl⟩ := h; exact q
  | byt x => obtain ⟨t, rfl⟩ := h; exact q
  | flt x => obtain ⟨t, rfl⟩ := h; exact q
  | ref a => cases (show r = Value.ref a from h); exact q
  | ty a => cases (show r = Value.type a from h); exact q
theorem od_binO {op : Operator} {nm : Str} (hn : PySem.dunder op.info.2 = nm) (hs : PySem.W.findIn X.K (.ref C) nm = some (some (.ref f))) (hf : PySem.W.isFn X.K (.ref f) = true) (he : PySem.W.selfFirst X.K C = true) (hi : InsT X.K C)
    (F : FnOk X.prog X.w X.K X.mg X.base (L2.CX X.prog X.w) k f fd ps (spD X.K g)) (hr : Room k X.A) (hb : Binds X.K fd ps []) (hx : Passes (L2.CX X.prog X.w) X E) : OpR X (binaryOp op) (rD2 X.K E (binOD C g)) := by
  intro pins s σ H x y v u Q I rx ry ⟨μ, ν, dx, dy, st, S, hx1, hy1, o1⟩
  unfold binOD at o1
  split at o1
  case h_2 => exact o1.elim
  rename_i C' fs hI
  split at o1
  case isFalse => exact o1.elim
  rename_i hc
  subst hc
  obtain ⟨a, dd, gs, rfl, ha, o2⟩ := own_rep S hx1 o1
  obtain ⟨b, dd2, gs2, rfl, hb2, _⟩ := asI_rep S hy1 hI
  obtain rfl : v = Value.ref a := rx
  obtain ⟨mA, J, _⟩ := ins_get I.hok ha
  obtain ⟨od, J, _⟩ := J.look
  obtain ⟨m, hF⟩ := I.fr
  obtain ⟨P, Z, pp, _⟩ := kit_of I ry (TyX.base (.ins hb2 hi.cl hi.ha hi.hn hi.htk hi.hm))
  refine PySem.W.binop_K hF I.ok.mod.kin J (Z.ty _ _ I.kIn pp) he (by rw [hn]; exact hs) hf (thn (run_at (vs := [.ref a, .ref b]) F hr rfl hb hx I (.cons rfl (.cons ry .nil)) ⟨μ, ν, [dx, dy], st, S, .cons hx1 (.one hy1), o2⟩) fun r s' q => ?_)
  obtain ⟨z, H', I', rz, q⟩ := q
  exact back_of rz ⟨z, H', I', rz, q⟩
/-! ### a class's method by the class's name; a new instance by a name that holds the class -/
def eCM (C : Addr) (g : List D → M D) (f : En → M (List D)) : EF := fun δ => (f δ).bind fun xs => g (.fn C :: xs)
theorem de_cm {x m : Str} {p apos : Pos} {e : Expr} {es : List Expr} {fa : En → M (List D)} {q : Addr} {mc : Value} {C0 : Addr} {pl : Sem Bool} (hm : X.mg x = some (.ref C)) (h0 : C0 = C) (r : ClX.CRead X.K C mc) (c : ClX.CMet X.K C mc m q f)
    (F : FnOk X.prog X.w X.K X.mg X.base (L2.CX X.prog X.w) k f fd ps (spD X.K g)) (hr : Room k X.A) (hb : Binds X.K fd ps []) (hx : Passes (L2.CX X.prog X.w) X E) (ha : DA X E (e :: es) fa) (hg : Gl X x := by rfl) (hdb : (x == ("__debug__" : Str)) = false := by decide)
    (hst : starEach (e :: es) X.env = (false, eval e X.env) :: starEach es X.env := by rfl) (hpl : (backTo pos (starEach es X.env)).any (·.1) = false := by rfl)
    (ht : eval (.Call (.Attribute (.Name x p) m apos) (e :: es) [] pos) X.env = (do
      let ov ← eval (.Name x p) X.env
      standAt apos.atName
      let (f, first) ← holding [ov] (getMethod ov m pl)
      callWith pos f first (backTo pos (starEach (e :: es) X.env)) (backToKw pos (keywordEach [] X.env))) := by rfl) :
    DE X E (.Call (.Attribute (.Name x p) m apos) (e :: es) [] pos) (eCM C0 g fa) :=
  pe_imp (ClX.pe_cmeth (pe_glob (v := .ref C) hg hm rfl hdb) r c (F.raw hb .nil) hr hx ha hst hpl ht) fun σ H Q ⟨μ, ν, δ, st, S, o⟩ => by
    refine ⟨rfl, μ, ν, δ, st, S, o.fst.imp fun xs st1 μ1 H1 e1 s1 o1 vs hv => ?_⟩
    show spD X.K g ((V.ref C :: vs) ++ []) H1 Q E
    rw [List.append_nil]
    exact ⟨μ1, ν, .fn C0 :: xs, st1, s1, .cons (by unfold Rep; rw [h0]) hv, o1⟩
noncomputable def eMakeL (i : Nat) (C : Addr) (g : List D → M D) (f : En → M (List D)) : EF := fun δ st => match δ[i]? with
  | some (some (.fn C')) => if C' = C then eMake C g f δ st else none
  | _ => none
theorem pe_makeL {i : Nat} {x : Str} {p : Pos} {e : Expr} {es : List Expr} {t : TA} {sp : Sp} (Mk1 : Mk X.K C f) (F : FnOk X.prog X.w X.K X.mg X.base (L2.CX X.prog X.w) k f fd ps sp) (hr : Room (k + 1) X.A) (hb : Binds X.K fd ps []) (hx : Passes (L2.CX X.prog X.w) X E) (ha : PA X (e :: es) t)
    (hN : X.N[i]? = some x) (hv : Vis X.env.scope x) (hdb : (x == ("__debug__" : Str)) = false) (hcd : (x == ("__classdict__" : Str)) = false)
    (he : starEach (e :: es) X.env = (false, eval e X.env) :: starEach es X.env) (hpl : (backTo pos (starEach es X.env)).any (·.1) = false) :
    PE X (.Call (.Name x p) (e :: es) [] pos) (fun σ H Q => σ[i]? = some (some (.ref C)) ∧ tMake C sp [] E t σ H Q) := ⟨fun pins s σ H Q I ⟨slot, rest⟩ => by
  have name := (pe_var (X := X) (pos := p) hN hv hdb hcd).run pins s σ H (fun z H1 => z = .ref C ∧ H1 = H) I ⟨.ref C, slot, rfl, rfl⟩
  refine wpAny_Call_Name_kw (thn name fun u s1 ⟨z, H1, I1, rz, ez, eH⟩ => ?_)
  subst ez eH
  obtain rfl : u = Value.ref C := rz
  exact PySem.W.callWith_K (h₀ := X.base) I1.ok.mod.kin Mk1.kp (thn (ha.run pos pins s1 σ _ _ I1 rest) fun us s2 ⟨vs, H2, I2, rv, q⟩ => ⟨I2.kIn, run_make Mk1 F hr hb .nil hx I2 rv q⟩) he hpl⟩
theorem de_makeL {i : Nat} {x : Str} {p : Pos} {e : Expr} {es : List Expr} {fa : En → M (List D)} (Mk1 : Mk X.K C f) (F : FnOk X.prog X.w X.K X.mg X.base (L2.CX X.prog X.w) k f fd ps (spD X.K g)) (hr : Room (k + 1) X.A) (hb : Binds X.K fd ps []) (hx : Passes (L2.CX X.prog X.w) X E) (ha : DA X E (e :: es) fa)
    (hN : X.N[i]? = some x := by rfl) (hv : Vis X.env.scope x := by first | exact Or.inl rfl | exact Or.inr (Or.inl rfl) | exact Or.inr (Or.inr rfl)) (hdb : (x == ("__debug__" : Str)) = false := by decide) (hcd : (x == ("__classdict__" : Str)) = false := by decide)
    (he : starEach (e :: es) X.env = (false, eval e X.env) :: starEach es X.env := by rfl) (hpl : (backTo pos (starEach es X.env)).any (·.1) = false := by rfl) :
    DE X E (.Call (.Name x p) (e :: es) [] pos) (eMakeL i C g fa) := pe_imp (pe_makeL (i := i) Mk1 F hr hb hx ha hN hv hdb hcd he hpl) fun σ H Q ⟨μ, ν, δ, st, S, o⟩ => by
  unfold eMakeL at o
  split at o
  · rename_i C' hf
    split at o
    · rename_i hq
      subst hq
      obtain ⟨v, h1, h2⟩ := S.env.get hf
      unfold Rep at h2
      subst h2
      exact ⟨h1, tD_make ⟨μ, ν, δ, st, S, o⟩⟩
    · exact o.elim
  · exact o.elim
/-! ### list(range(n)) -/
def rngL (d : D) : M D := fun st => match d with
  | .int n => if -(2 ^ 62) ≤ n ∧ n ≤ 1000000 then some (.ok (.lst (rngD 0 n.toNat)) st) else none
  | _ => none
def eListR1 (f : EF) : EF := fun δ => (f δ).bind rngL
theorem rgV_reps {K : PySem.W.Frag} {μ : Mu} {G : Hp} {n : Int} : Reps K μ G (rngD 0 n.toNat) (rgV 0 n) := by
  unfold rngD rgV
  rw [Int.sub_zero]
  generalize n.toNat = m
  have key : ∀ l : List Nat, Reps K μ G (l.map fun i => D.int (0 + (i : Nat))) (l.map fun i => V.int (0 + (i : Nat))) := fun l => by
    induction l with
    | nil => exact Reps.nil
    | cons i l ih => exact Reps.cons to_int ih
  exact key _
theorem de_listR1 {e : Expr} {fe : EF} {p p2 pos2 : Pos} (hm : X.mg "list" = none) (hm2 : X.mg "range" = none) (he : DE X E e fe) (hc : X.calm = true := by rfl) (hg : Gl X "list" := by rfl) (hg2 : Gl X "range" := by rfl)
    (na : starEach [e] X.env = (false, eval e X.env) :: starEach [] X.env := by rfl) (nb : starEach [.Call (.Name "range" p2) [e] [] pos2] X.env = (false, eval (.Call (.Name "range" p2) [e] [] pos2) X.env) :: starEach [] X.env := by rfl) :
    DE X E (.Call (.Name "list" p) [.Call (.Name "range" p2) [e] [] pos2] [] pos) (eListR1 fe) := pe_imp (pe_listRg hc hg hm (prg_1 hg2 hm2 he na) nb) fun σ H Q ⟨μ, ν, δ, st, S, o⟩ => by
  refine ⟨μ, ν, δ, st, S, o.fst.imp fun d st1 μ1 H1 e1 s1 o1 v hv => ?_⟩
  unfold rngL at o1
  split at o1
  · rename_i n
    split at o1
    · rename_i hn
      have big : (1000000 : Int) < 2 ^ 62 := by decide
      refine ⟨n, rep_int hv, ⟨by decide, by decide, hn.1, Int.lt_of_le_of_lt hn.2 big, ?_⟩, fun q hq => o1.go rfl (s1.ext_new hq) (s1.new hq) _ (rep_lst s1 hq ?_ rgV_reps)⟩
      · have : (n - 0).toNat ≤ 1000000 := by omega
        exact Nat.le_trans this (by decide)
      · rw [rngD_len]
        have : n.toNat ≤ 1000000 := by omega
        exact Nat.le_trans this (by decide)
    · exact o1.elim
  · exact o1.elim
/-! ### len(o) by the class's own method -/
def lenOD (C : Addr) (g : List D → M D) (d : D) : M D := (ownM C g d []).bind fun r st => match r with
  | .int n => if 0 ≤ n ∧ n < 2 ^ 62 then some (.ok (.int n) st) else none
  | _ => none
end
end DL
end
section
namespace DL
open PySem PySem.Spec PyProof.Rows L2
/-! ### reading the plain functions -/
@[irreducible] def W {α : Type} (m : M α) (st : Sto) (P : α → Sto → Prop) : Prop := match m st with
  | some (.ok a st') => P a st'
  | _ => False
section
variable {α β : Type} {st : Sto} {δ : En}
theorem W.mono {m : M α} {P Q : α → Sto → Prop} (h : W m st P) (k : ∀ a st', P a st' → Q a st') : W m st Q := by
  unfold W at h ⊢
  split at h
  · exact k _ _ h
  · exact h.elim
theorem W.eq {m : M α} {a : α} {st' : Sto} {P : α → Sto → Prop} (h : m st = some (.ok a st')) : W m st P = P a st' := by
  unfold W; rw [h]
@[simp] theorem w_bind {m : M α} {f : α → M β} {P : β → Sto → Prop} : W (M.bind m f) st P = W m st fun a st' => W (f a) st' P := by
  unfold W M.bind
  cases m st with
  | none => rfl
  | some r => cases r <;> rfl
@[simp] theorem w_pure {a : α} {P : α → Sto → Prop} : W (M.pure a) st P = P a st := by with_unfolding_all exact propext Iff.rfl
@[simp] theorem w_ok {f : Sto → α} {g : Sto → Sto} {P : α → Sto → Prop} : W (fun st => some (.ok (f st) (g st))) st P = P (f st) (g st) := by with_unfolding_all exact propext Iff.rfl
@[simp] theorem w_ite {c : Sto → Prop} [∀ s, Decidable (c s)] {m1 m2 : M α} {P : α → Sto → Prop} : W (fun s => if c s then m1 s else m2 s) st P = if c st then W m1 st P else W m2 st P := by
  unfold W; by_cases h : c st <;> simp [h]
theorem w_if {c : Prop} [Decidable c] {m1 m2 : M α} {P : α → Sto → Prop} : W (if c then m1 else m2) st P = if c then W m1 st P else W m2 st P := by split <;> rfl
@[simp] theorem w_var {i : Nat} {P : D → Sto → Prop} : W (eVar i δ) st P = (match δ[i]? with | some (some d) => P d st | _ => False) := by
  unfold W eVar
  cases δ[i]? with
  | none => rfl
  | some o => cases o <;> rfl
@[simp] theorem w_c {d : D} {P : D → Sto → Prop} : W (eC d δ) st P = P d st := by with_unfolding_all exact propext Iff.rfl
@[simp] theorem w_op2 {r : D → D → M D} {fa fb : EF} {P : D → Sto → Prop} : W (eOp2 r fa fb δ) st P = W (fa δ) st fun x st1 => W (fb δ) st1 fun y st2 => W (r x y) st2 P := by unfold eOp2; simp
@[simp] theorem w_nil {P : List D → Sto → Prop} : W (eNil δ) st P = P [] st := by with_unfolding_all exact propext Iff.rfl
@[simp] theorem w_cons {f : EF} {g : En → M (List D)} {P : List D → Sto → Prop} : W (eCons f g δ) st P = W (f δ) st fun x st1 => W (g δ) st1 fun r st2 => P (x :: r) st2 := by unfold eCons; simp
@[simp] theorem w_tup {f : En → M (List D)} {P : D → Sto → Prop} : W (eTup f δ) st P = W (f δ) st fun xs st1 => xs.length ≤ sizeLine ∧ P (.tup xs) st1 := by
  unfold eTup; simp only [w_bind]; congr; funext xs st1; unfold W; by_cases h : xs.length ≤ sizeLine <;> simp [h]
@[simp] theorem w_lst {f : En → M (List D)} {P : D → Sto → Prop} : W (eLst f δ) st P = W (f δ) st fun xs st1 => xs.length ≤ sizeLine ∧ P (.lst xs) st1 := by
  unfold eLst; simp only [w_bind]; congr; funext xs st1; unfold W; by_cases h : xs.length ≤ sizeLine <;> simp [h]
@[simp] theorem w_newL {f : En → M (List D)} {P : D → Sto → Prop} : W (eNewL f δ) st P = W (f δ) st fun xs st1 => xs.length ≤ sizeLine ∧ P (.obj st1.length) (st1 ++ [.lst xs]) := by
  unfold eNewL; simp only [w_bind]; congr; funext xs st1; unfold W; by_cases h : xs.length ≤ sizeLine <;> simp [h]
@[simp] theorem w_sub {i j : Int} {P : D → Sto → Prop} : W (subD (.int i) (.int j)) st P = P (.int (i - j)) st := by with_unfolding_all exact propext Iff.rfl
@[simp] theorem w_add {i j : Int} {P : D → Sto → Prop} : W (addD (.int i) (.int j)) st P = P (.int (i + j)) st := by with_unfolding_all exact propext Iff.rfl
@[simp] theorem w_mod {i j : Int} {P : D → Sto → Prop} : W (modD (.int i) (.int j)) st P = (0 < j ∧ P (.int (i % j)) st) := by unfold W modD; by_cases h : 0 < j <;> simp [h]
@[simp] theorem w_div {i j : Int} {P : D → Sto → Prop} : W (divD (.int i) (.int j)) st P = ((0 < j ∧ j.natAbs < 2 ^ 9000) ∧ P (.int (i / j)) st) := by unfold W divD; by_cases h : 0 < j ∧ j.natAbs < 2 ^ 9000 <;> simp only [h, if_true, if_false, true_and, false_and]
@[simp] theorem w_pow {i j : Int} {P : D → Sto → Prop} : W (powD (.int i) (.int j)) st P = ((0 ≤ j ∧ j ≤ 1000000 ∧ i.natAbs < 2 ^ 64) ∧ P (.int (i ^ j.toNat)) st) := by unfold W powD; by_cases h : 0 ≤ j ∧ j ≤ 1000000 ∧ i.natAbs < 2 ^ 64 <;> simp only [h, if_true, if_false, true_and, false_and]
@[simp] theorem w_mul {i j : Int} {P : D → Sto → Prop} : W (mulD (.int i) (.int j)) st P = ((((-(2 ^ 64) < i ∧ i < 2 ^ 64) ∨ (-(2 ^ 64) < j ∧ j < 2 ^ 64)) ∨ i.natAbs.log2 + j.natAbs.log2 < 1000000) ∧ P (.int (i * j)) st) := by unfold W mulD; by_cases h : ((-(2 ^ 64) < i ∧ i < 2 ^ 64) ∨ (-(2 ^ 64) < j ∧ j < 2 ^ 64)) ∨ i.natAbs.log2 + j.natAbs.log2 < 1000000 <;> simp only [h, if_true, if_false, true_and, false_and]
@[simp] theorem w_cmp {p : Int → Int → Bool} {i j : Int} {P : D → Sto → Prop} : W (cmpI p (.int i) (.int j)) st P = P (.bl (p i j)) st := by with_unfolding_all exact propext Iff.rfl
@[simp] theorem w_bD {b : Bool} {P : Bool → Sto → Prop} : W (bD (.bl b)) st P = P b st := by with_unfolding_all exact propext Iff.rfl
@[simp] theorem w_eB {f : EF} {P : Bool → Sto → Prop} : W (eB f δ) st P = W (f δ) st fun d st1 => W (bD d) st1 P := by unfold eB; simp
@[simp] theorem w_eTru {f : EF} {P : Bool → Sto → Prop} : W (eTru f δ) st P = W (f δ) st fun d st1 => W (truD d) st1 P := by unfold eTru; simp
@[simp] theorem w_truB {b : Bool} {P : Bool → Sto → Prop} : W (truD (.bl b)) st P = P b st := by with_unfolding_all exact propext Iff.rfl
@[simp] theorem w_ch {r r' : D → D → M D} {fa fb fc : EF} {P : D → Sto → Prop} : W (eCh r r' fa fb fc δ) st P = W (fa δ) st fun x st1 => W (fb δ) st1 fun y st2 => W (r x y) st2 fun z st3 => W (bD z) st3 fun b st4 => W (if b = true then (fc δ).bind fun w => r' y w else M.pure (.bl false)) st4 P := by unfold eCh; simp
@[simp] theorem w_tand {f g : En → M Bool} {P : Bool → Sto → Prop} : W (tAndD f g δ) st P = W (f δ) st fun b st1 => W (if b = true then g δ else M.pure false) st1 P := by unfold tAndD; simp
@[simp] theorem w_tor {f g : En → M Bool} {P : Bool → Sto → Prop} : W (tOrD f g δ) st P = W (f δ) st fun b st1 => W (if b = true then M.pure true else g δ) st1 P := by unfold tOrD; simp
@[simp] theorem w_tnot {f : En → M Bool} {P : Bool → Sto → Prop} : W (tNotD f δ) st P = W (f δ) st fun b st1 => P (!b) st1 := by unfold tNotD; simp
@[simp] theorem w_and {f g : EF} {P : D → Sto → Prop} : W (eAnd f g δ) st P = W (f δ) st fun d st1 => W (bD d) st1 fun b st2 => W (if b = true then g δ else M.pure (.bl false)) st2 P := by unfold eAnd; simp
@[simp] theorem w_or {f g : EF} {P : D → Sto → Prop} : W (eOr f g δ) st P = W (f δ) st fun d st1 => W (bD d) st1 fun b st2 => W (if b = true then M.pure (.bl true) else g δ) st2 P := by unfold eOr; simp
@[simp] theorem w_not {f : EF} {P : D → Sto → Prop} : W (eNot f δ) st P = W (f δ) st fun d st1 => W (bD d) st1 fun b st2 => P (.bl (!b)) st2 := by unfold eNot; simp
@[simp] theorem w_next {P : Fl → Sto → Prop} : W (sNext δ) st P = P (.nx δ) st := by with_unfolding_all exact propext Iff.rfl
@[simp] theorem w_ret {f : EF} {P : Fl → Sto → Prop} : W (sRet f δ) st P = W (f δ) st fun d st1 => P (.rt d) st1 := by unfold sRet; simp
@[simp] theorem w_sif {c : En → M Bool} {f g : SF} {P : Fl → Sto → Prop} : W (sIf c f g δ) st P = W (c δ) st fun b st1 => W (if b = true then f δ else g δ) st1 P := by unfold sIf; simp
@[simp] theorem w_expr {f : EF} {P : Fl → Sto → Prop} : W (sExpr f δ) st P = W (f δ) st fun _ st1 => P (.nx δ) st1 := by unfold sExpr; simp
@[simp] theorem w_gN {i : Nat} {d : D} {P : En → Sto → Prop} : W (gN i d δ) st P = P (δ.set i (some d)) st := by with_unfolding_all exact propext Iff.rfl
@[simp] theorem w_asg {f : EF} {g : TgF} {P : Fl → Sto → Prop} : W (sAsg f g δ) st P = W (f δ) st fun d st1 => W (g d δ) st1 fun δ' st2 => P (.nx δ') st2 := by unfold sAsg; simp
@[simp] theorem w_eCall {g : List D → M D} {f : En → M (List D)} {P : D → Sto → Prop} : W (eCall g f δ) st P = W (f δ) st fun xs st1 => W (g xs) st1 P := by unfold eCall; simp
/-- statement after statement: what each case goes on with -/
def goOn (g : SF) (P : Fl → Sto → Prop) : Fl → Sto → Prop := fun fl st => match fl with
  | .nx δ => W (g δ) st P
  | fl => P fl st
@[simp] theorem w_seq {f g : SF} {P : Fl → Sto → Prop} : W (sSeq f g δ) st P = W (f δ) st (goOn g P) := by
  unfold sSeq; simp only [w_bind]; congr; funext fl st1; cases fl <;> with_unfolding_all rfl
@[simp] theorem goOn_nx {g : SF} {P : Fl → Sto → Prop} : goOn g P (.nx δ) st = W (g δ) st P := by with_unfolding_all exact propext Iff.rfl
@[simp] theorem goOn_rt {g : SF} {P : Fl → Sto → Prop} {d : D} : goOn g P (.rt d) st = P (.rt d) st := by with_unfolding_all exact propext Iff.rfl
end
end DL
end
section
namespace DL
open PySem PySem.Spec PyProof.Rows L2
section
variable {α β : Type} {st st1 : Sto} {δ : En}
/-! ### leaving -/
theorem TrOk.rfl' : TrOk st.length st st := ⟨Nat.le_refl _, fun i c _ h => .inl h⟩
theorem TrOk.app {more : Sto} : TrOk st.length st (st ++ more) := ⟨by simp, fun i c hi h => .inl (by rw [List.getElem?_append_left hi] at h; exact h)⟩
theorem TrOk.setb {n j : Nat} {c : Cell} (t : TrOk n st st1) (hc : belowC n c = true) : TrOk n st (st1.set j c) := by
  refine ⟨by rw [List.length_set]; exact t.1, fun i c' hi h => ?_⟩
  by_cases hj : j = i
  · subst hj
    rw [List.getElem?_set] at h
    by_cases hl : j < st1.length
    · simp [hl] at h; exact .inr (h ▸ hc)
    · simp [hl] at h
  · rw [List.getElem?_set_ne hj] at h
    exact t.2 i c' hi h
theorem TrOk.appr {n : Nat} {more : Sto} (t : TrOk n st st1) : TrOk n st (st1 ++ more) := by
  refine ⟨by rw [List.length_append]; exact Nat.le_trans t.1 (Nat.le_add_right _ _), fun i c hi h => ?_⟩
  rw [List.getElem?_append_left (Nat.lt_of_lt_of_le hi t.1)] at h
  exact t.2 i c hi h
def Ret (n : Nat) (st1 : Sto) (fl : Fl) (Q : D → Prop) : Prop := match fl with
  | .rt d => ∃ d', frz n st1 4 d = some d' ∧ Q d'
  | .nx _ => Q .non
  | _ => False
theorem frz_bel {n k : Nat} {d : D} (h : belowD n d = true) : frz n st1 k d = some d := by
  cases k <;> (unfold frz; rw [if_pos h])
@[simp] theorem ret_rt {n : Nat} {d : D} {Q : D → Prop} : Ret n st1 (.rt d) Q = ∃ d', frz n st1 4 d = some d' ∧ Q d' := by with_unfolding_all exact propext Iff.rfl
@[simp] theorem ret_nx {n : Nat} {Q : D → Prop} : Ret n st1 (.nx δ) Q = Q .non := by with_unfolding_all exact propext Iff.rfl
theorem ret_below {n : Nat} {d : D} {Q : D → Prop} (h : belowD n d = true) (q : Q d) : Ret n st1 (.rt d) Q := ⟨d, frz_bel h, q⟩
theorem w_leave {n : Nat} {d : D} {P : D → Sto → Prop} (t : TrOk n st st1) (h : ∃ d', frz n st1 4 d = some d' ∧ P d' (st1.take n)) : W (fun s => leave n st st1 d) st P := by
  obtain ⟨d', e, q⟩ := h
  unfold W leave
  dsimp only
  rw [if_pos t, e]
  exact q
theorem w_callM {p m : Nat} {f : SF} {ds : List D} {P : D → Sto → Prop} (hp : ds.length = p) (h : W (f (startD m ds)) st fun fl st1 => TrOk st.length st st1 ∧ Ret st.length st1 fl fun d => P d (st1.take st.length)) : W (callM p m f ds) st P := by
  unfold W at h ⊢
  unfold callM
  rw [if_pos hp]
  cases e : f (startD m ds) st with
  | none => rw [e] at h; exact h.elim
  | some r =>
    rw [e] at h
    cases r with
    | er C fs st1 => exact h.elim
    | ok fl st1 =>
      obtain ⟨t, q⟩ := h
      cases fl with
      | rt d =>
        have z := w_leave t q
        unfold W at z
        exact z
      | nx δ' =>
        have z := w_leave t ⟨.non, frz_bel (by unfold belowD; rfl), q⟩
        unfold W at z
        exact z
      | bk δ' => exact q.elim
      | ct δ' => exact q.elim
/-- a call that leaves the store as it is and returns flat data -/
theorem w_call0 {p m : Nat} {f : SF} {ds : List D} {P : D → Sto → Prop} (hp : ds.length = p) (h : W (f (startD m ds)) st fun fl st1 => st1 = st ∧ match fl with | .rt d => belowD st.length d = true ∧ P d st | .nx _ => P .non st | _ => False) : W (callM p m f ds) st P := by
  refine w_callM hp (h.mono fun fl st1 ⟨e, q⟩ => ?_)
  subst e
  refine ⟨.rfl', ?_⟩
  rw [List.take_length]
  cases fl with
  | rt d => exact ⟨d, frz_bel q.1, q.2⟩
  | nx δ' => exact q
  | bk δ' => exact q.elim
  | ct δ' => exact q.elim
theorem w_callN {p m : Nat} {f : SF} {ds : List D} {P : D → Sto → Prop} (hp : ds.length = p) (h : W (f (startD m ds)) st fun fl st1 => match fl with | .rt d => P d st1 | .nx _ => P .non st1 | _ => False) : W (callN p m f ds) st P := by
  unfold W at h ⊢
  unfold callN
  rw [if_pos hp]
  cases e : f (startD m ds) st with
  | none => rw [e] at h; exact h.elim
  | some r =>
    rw [e] at h
    cases r with
    | er C fs st1 => exact h.elim
    | ok fl st1 => cases fl <;> exact h
theorem w_scope {drop : List Nat} {f : SF} {P : Fl → Sto → Prop} (h : W (f δ) st fun fl st1 => match fl with
    | .nx δ' => TrOk st.length st st1 ∧ belowE st.length (unsetAll δ' drop) = true ∧ P (.nx (unsetAll δ' drop)) (st1.take st.length)
    | .ct δ' => TrOk st.length st st1 ∧ belowE st.length (unsetAll δ' drop) = true ∧ P (.ct (unsetAll δ' drop)) (st1.take st.length)
    | fl => P fl st1) : W (sScope drop f δ) st P := by
  unfold W at h ⊢
  unfold sScope
  cases e : f δ st with
  | none => rw [e] at h; exact h.elim
  | some r =>
    rw [e] at h
    cases r with
    | er C fs st1 => exact h.elim
    | ok fl st1 =>
      cases fl with
      | rt d => exact h
      | bk δ' => exact h
      | nx δ' => obtain ⟨a, b, c⟩ := h; dsimp only; rw [if_pos ⟨a, b⟩]; exact c
      | ct δ' => obtain ⟨a, b, c⟩ := h; dsimp only; rw [if_pos ⟨a, b⟩]; exact c
theorem w_noer {m : M α} {P : α → Sto → Prop} : W (noer m) st P = W m st P := by
  unfold W noer
  cases m st with
  | none => rfl
  | some r => cases r <;> rfl
/-! ### loops -/
theorem w_for {it : ItF} {g : TgF} {body : SF} {P : Fl → Sto → Prop} : W (sFor it g body δ) st P = W (it δ) st fun xs st1 => W (forM g body xs δ) st1 P := by unfold sFor; simp
theorem w_forM {g : TgF} {body : SF} {P : Fl → Sto → Prop} (Inv : Nat → En → Sto → Prop) {xs : List D}
    (step : ∀ i x δ st, xs[i]? = some x → Inv i δ st → W (g x δ) st fun δ1 st1 => W (body δ1) st1 fun fl st2 => match fl with | .nx δ' => Inv (i + 1) δ' st2 | .ct δ' => Inv (i + 1) δ' st2 | .bk _ => False | .rt d => P (.rt d) st2)
    (done : ∀ δ st, Inv xs.length δ st → P (.nx δ) st) (h0 : Inv 0 δ st) : W (forM g body xs δ) st P := by
  have key : ∀ (m i : Nat) (δ : En) (st : Sto), m = xs.length - i → i ≤ xs.length → Inv i δ st → W (forM g body (xs.drop i) δ) st P := by
    intro m
    induction m with
    | zero =>
      intro i δ st hm hi I
      have : i = xs.length := by omega
      subst this
      rw [List.drop_length]
      unfold forM
      rw [w_pure]
      exact done δ st I
    | succ m ih =>
      intro i δ st hm hi I
      have hl : i < xs.length := by omega
      rw [List.drop_eq_getElem_cons hl]
      unfold forM
      rw [w_bind]
      refine (step i _ δ st (List.getElem?_eq_getElem hl) I).mono fun δ1 st1 q => ?_
      rw [w_bind]
      refine q.mono fun fl st2 q => ?_
      cases fl with
      | nx δ' => exact ih (i + 1) δ' st2 (by omega) hl q
      | ct δ' => exact ih (i + 1) δ' st2 (by omega) hl q
      | bk δ' => exact q.elim
      | rt d =>
        dsimp only
        rw [w_pure]
        exact q
  exact key _ 0 δ st rfl (Nat.zero_le _) h0
/-- a comprehension: each item's value; the store may change -/
theorem w_lcM {g : TgF} {el : EF} {P : List D → Sto → Prop} (Inv : List D → Sto → Prop) {xs : List D}
    (step : ∀ x r st, xs[r.length]? = some x → Inv r st → W (g x δ) st fun δ1 st1 => W (el δ1) st1 fun y st2 => Inv (r ++ [y]) st2)
    (done : ∀ r st, r.length = xs.length → Inv r st → P r st) (h0 : Inv [] st) : W (lcM g eYes el δ xs) st P := by
  have key : ∀ (m : Nat) (r : List D) (st : Sto) (P : List D → Sto → Prop), m = xs.length - r.length → r.length ≤ xs.length → Inv r st → (∀ r' st, (r ++ r').length = xs.length → Inv (r ++ r') st → P r' st) → W (lcM g eYes el δ (xs.drop r.length)) st P := by
    intro m
    induction m with
    | zero =>
      intro r st P hm hi I hP
      have : r.length = xs.length := by omega
      rw [this, List.drop_length]
      show W (M.pure []) st P
      rw [w_pure]
      exact hP [] st (by simpa using this) (by simpa using I)
    | succ m ih =>
      intro r st P hm hi I hP
      have hl : r.length < xs.length := by omega
      rw [List.drop_eq_getElem_cons hl]
      unfold lcM
      rw [w_bind]
      refine (step _ r st (List.getElem?_eq_getElem hl) I).mono fun δ1 st1 q => ?_
      unfold eYes
      rw [w_bind, w_pure, if_pos rfl, w_bind]
      refine q.mono fun y st2 q => ?_
      rw [w_bind]
      have e : (r ++ [y]).length = r.length + 1 := by simp
      have := ih (r ++ [y]) st2 (fun r' st => W (M.pure (y :: r')) st P) (by omega) (by omega) q (fun r' st hr hI => by rw [w_pure]; exact hP (y :: r') st (by simpa using hr) (by simpa using hI))
      rw [e] at this
      exact this
  exact key _ [] st P rfl (Nat.zero_le _) h0 (fun r' st hr hI => done r' st (by simpa using hr) (by simpa using hI))
@[simp] theorem w_lc {it : ItF} {g : TgF} {vs : List Nat} {tt : En → M Bool} {el : EF} {P : D → Sto → Prop} : W (eLc it g vs tt el δ) st P = W (it δ) st fun xs st1 => xs.length ≤ sizeLine ∧ W (lcM g tt el (wipeD δ vs) xs) st1 fun r st2 => P (.lst r) st2 := by
  unfold eLc eLcM
  simp only [w_bind]
  congr; funext xs st1
  by_cases h : xs.length ≤ sizeLine
  · unfold W; simp only [h, if_true, true_and]; with_unfolding_all exact w_noer (P := fun r st2 => P (.lst r) st2)
  · unfold W; simp [h]
@[simp] theorem w_lcN {it : ItF} {g : TgF} {vs : List Nat} {tt : En → M Bool} {el : EF} {P : D → Sto → Prop} : W (eLcN it g vs tt el δ) st P = W (it δ) st fun xs st1 => xs.length ≤ sizeLine ∧ W (lcM g tt el (wipeD δ vs) xs) st1 fun r st2 => P (.obj st2.length) (st2 ++ [.lst r]) := by
  unfold eLcN eLcM
  simp only [w_bind]
  congr; funext xs st1
  by_cases h : xs.length ≤ sizeLine
  · unfold W; simp only [h, if_true, true_and]; with_unfolding_all exact w_noer (P := fun r st2 => P (.obj st2.length) (st2 ++ [.lst r]))
  · unfold W; simp [h]
/-! ### what is gone over -/
@[simp] theorem w_iR1 {f : En → M (List D)} {P : List D → Sto → Prop} : W (iR1 f δ) st P = W (f δ) st fun xs st1 => W (rng1 xs) st1 P := by unfold iR1; simp
@[simp] theorem w_iR2 {f : En → M (List D)} {P : List D → Sto → Prop} : W (iR2 f δ) st P = W (f δ) st fun xs st1 => W (rng2 xs) st1 P := by unfold iR2; simp
@[simp] theorem w_iSq {f : EF} {P : List D → Sto → Prop} : W (iSq f δ) st P = W (f δ) st fun xs st1 => W (seqD xs) st1 P := by unfold iSq; simp
@[simp] theorem w_iEn {f : En → M (List D)} {P : List D → Sto → Prop} : W (iEn f δ) st P = W (f δ) st fun xs st1 => W (enD xs) st1 P := by unfold iEn; simp
@[simp] theorem w_seqL {xs : List D} {P : List D → Sto → Prop} : W (seqD (.lst xs)) st P = P xs st := by with_unfolding_all exact propext Iff.rfl
@[simp] theorem w_seqT {xs : List D} {P : List D → Sto → Prop} : W (seqD (.tup xs)) st P = P xs st := by with_unfolding_all exact propext Iff.rfl
@[simp] theorem w_enL {xs : List D} {P : List D → Sto → Prop} : W (enD [.lst xs]) st P = P (enumD xs) st := by with_unfolding_all exact propext Iff.rfl
theorem in62 {n : Nat} (hn : n ≤ 1000) : -(2 ^ 62) ≤ (n : Int) ∧ (n : Int) < 2 ^ 62 :=
  ⟨Int.le_trans (by decide) (Int.natCast_nonneg n), Int.lt_of_le_of_lt (Int.ofNat_le.mpr hn) (by decide)⟩
theorem rng1_ok {n : Nat} (hn : n ≤ 1000) : rng1 [.int (n : Nat)] st = some (.ok (rngD 0 n) st) := by
  unfold rng1
  exact if_pos (in62 hn)
theorem w_rng1 {n : Nat} {P : List D → Sto → Prop} (hn : n ≤ 1000) : W (rng1 [.int (n : Nat)]) st P = P (rngD 0 n) st := W.eq (rng1_ok hn)
theorem toNat_sub' {a n : Nat} (h : a ≤ n) : ((n : Int) - a).toNat = n - a := by omega
theorem rng2_ok {a n : Nat} (ha : a ≤ n) (hn : n ≤ 1000) : rng2 [.int (a : Nat), .int (n : Nat)] st = some (.ok (rngD a (n - a)) st) := by
  unfold rng2
  dsimp only
  rw [toNat_sub' ha]
  exact if_pos ⟨⟨(in62 (Nat.le_trans ha hn)).1, (in62 (Nat.le_trans ha hn)).2, (in62 hn).1, (in62 hn).2⟩, Nat.le_trans (Nat.le_trans (Nat.sub_le _ _) hn) (by decide)⟩
theorem w_rng2 {a n : Nat} {P : List D → Sto → Prop} (ha : a ≤ n) (hn : n ≤ 1000) : W (rng2 [.int (a : Nat), .int (n : Nat)]) st P = P (rngD a (n - a)) st := W.eq (rng2_ok ha hn)
theorem rngD_getx {lo : Int} {n i : Nat} {x : D} (h : (rngD lo n)[i]? = some x) : i < n ∧ x = .int (lo + i) := by
  unfold rngD at h
  rw [List.getElem?_map] at h
  by_cases hi : i < n
  · rw [List.getElem?_range hi] at h
    exact ⟨hi, (Option.some.inj h).symm⟩
  · rw [List.getElem?_eq_none (by simpa using hi)] at h; cases h
@[simp] theorem rngD_length {lo : Int} {n : Nat} : (rngD lo n).length = n := by unfold rngD; simp
/-! ### lists -/
@[simp] theorem w_lenT {xs : List D} {P : D → Sto → Prop} : W (lenD [.tup xs]) st P = P (.int (xs.length : Nat)) st := by with_unfolding_all exact propext Iff.rfl
@[simp] theorem w_lenL {xs : List D} {P : D → Sto → Prop} : W (lenD [.lst xs]) st P = P (.int (xs.length : Nat)) st := by with_unfolding_all exact propext Iff.rfl
@[simp] theorem w_lenF {xs : List D} {P : D → Sto → Prop} : W (lenD [.fl xs]) st P = P (.int (xs.length : Nat)) st := by with_unfolding_all exact propext Iff.rfl
@[simp] theorem w_max {i j : Int} {P : D → Sto → Prop} : W (max2D [.int i, .int j]) st P = P (.int (if j > i then j else i)) st := by with_unfolding_all exact propext Iff.rfl
@[simp] theorem w_min {i j : Int} {P : D → Sto → Prop} : W (min2D [.int i, .int j]) st P = P (.int (if j < i then j else i)) st := by with_unfolding_all exact propext Iff.rfl
theorem atI_nat {α : Type} {xs : List α} {i : Nat} {x : α} (h : xs[i]? = some x) : atI xs (i : Int) = some x := by
  have hl : i < xs.length := by
    rcases Nat.lt_or_ge i xs.length with q | q
    · exact q
    · rw [List.getElem?_eq_none q] at h; cases h
  unfold atI ixN
  have h2 : (i : Int) < xs.length := by omega
  rw [if_pos (Int.natCast_nonneg i), if_pos h2]
  simpa using h
theorem w_ixL {xs : List D} {i : Int} {d : D} {P : D → Sto → Prop} (h : atI xs i = some d) : W (ixD (.lst xs) (.int i)) st P = P d st := by unfold W ixD asL; simp only [h]
theorem w_ixF {xs : List D} {i : Int} {d : D} {P : D → Sto → Prop} (h : atI xs i = some d) : W (ixD (.fl xs) (.int i)) st P = P d st := by unfold W ixD asL; simp only [h]
theorem w_ixT {xs : List D} {i : Int} {d : D} {P : D → Sto → Prop} (h : atI xs i = some d) : W (ixD (.tup xs) (.int i)) st P = P d st := by unfold W ixD asL asT; simp only [h]
theorem w_ixO {j : Nat} {xs : List D} {i : Int} {d : D} {P : D → Sto → Prop} (hc : st[j]? = some (.lst xs)) (h : atI xs i = some d) : W (ixD (.obj j) (.int i)) st P = P d st := by unfold W ixD asL; simp only [hc, h]
@[simp] theorem w_gSub {fo fi : EF} {d : D} {P : En → Sto → Prop} : W (gSubD fo fi d δ) st P = W (fo δ) st fun o st1 => W (fi δ) st1 fun i st2 => W (setD o i d) st2 fun _ st3 => P δ st3 := by unfold gSubD; simp
theorem w_setD {j n : Nat} {xs : List D} {k : Int} {d : D} {P : Unit → Sto → Prop} (hc : st[j]? = some (.lst xs)) (hn : ixN xs.length k = some n) : W (setD (.obj j) (.int k) d) st P = P () (st.set j (.lst (xs.set n d))) := by
  unfold W setD; simp only [hc, hn]
end
end DL
end
section
namespace Law
open PySem PySem.Spec PyProof.Rows L2 DL
def top (i : Nat) : Stmt := PySem.Challenge.pw_beanjars_k10_disputes.main.body.getD i (.Pass ⟨0, 0, 0, 0⟩)
structure As where
  C_Jar : Addr
  C_Table : Addr
  F_is_colour : Addr
/-! ### _law_pool -/
abbrev s_ulaw_pool : Stmt := top 40
theorem sc_ulaw_pool : FnScope ["_law_script", "_law_k", "_law_cell", "_law_seed"] ["_law_script", "_law_k"] (defScope s_ulaw_pool) := ⟨rfl, rfl, rfl, by decide +kernel, rfl, by decide +kernel, by decide +kernel⟩
noncomputable def b_ulaw_pool (A : As) : SF :=
  (sSeq (sAsg (eC (.int 0)) (gN 2)) (sSeq (sIf (eB (eOp2 ltD (eVar 1) (eCall lenD (eCons (eVar 0) eNil)))) (sAsg (eOp2 ixD (eVar 0) (eVar 1)) (gN 2)) sNext) (sSeq (sAsg (eOp2 modD (eOp2 powD (eOp2 addD (eOp2 addD (eOp2 modD (eVar 2) (eC (.int 2147483629))) (eOp2 mulD (eOp2 mulD (eC (.int 7919)) (eVar 1)) (eVar 1))) (eC (.int 31))) (eC (.int 3))) (eC (.int 2147483647))) (gN 3)) (sSeq (sIf (eB (eOp2 ltD (eVar 2) (eOp2 powD (eC (.int 10)) (eC (.int 18))))) (sAsg (eC (.int 0)) (gN 2)) sNext) (sRet (eLst (eCons (eVar 2) (eCons (eVar 3) eNil))))))))
noncomputable def g_ulaw_pool (A : As) : List D → M D := callM 2 4 (b_ulaw_pool A)

noncomputable def b_ulaw_poolN1 (A : As) : SF :=
  (sSeq (sAsg (eC (.int 0)) (gN 2)) (sSeq (sIf (eB (eOp2 ltD (eVar 1) (eCall lenD (eCons (eVar 0) eNil)))) (sAsg (eOp2 ixD (eVar 0) (eVar 1)) (gN 2)) sNext) (sSeq (sAsg (eOp2 modD (eOp2 powD (eOp2 addD (eOp2 addD (eOp2 modD (eVar 2) (eC (.int 2147483629))) (eOp2 mulD (eOp2 mulD (eC (.int 7919)) (eVar 1)) (eVar 1))) (eC (.int 31))) (eC (.int 3))) (eC (.int 2147483647))) (gN 3)) (sSeq (sIf (eB (eOp2 ltD (eVar 2) (eOp2 powD (eC (.int 10)) (eC (.int 18))))) (sAsg (eC (.int 0)) (gN 2)) sNext) (sRet (eNewL (eCons (eVar 2) (eCons (eVar 3) eNil))))))))
noncomputable def g_ulaw_poolN1 (A : As) : List D → M D := callN 2 4 (b_ulaw_poolN1 A)

/-! ### _law_draw -/
abbrev s_ulaw_draw : Stmt := top 41
theorem sc_ulaw_draw : FnScope ["_law_pool_here", "_law_many", "_law_digit"] ["_law_pool_here", "_law_many"] (defScope s_ulaw_draw) := ⟨rfl, rfl, rfl, by decide +kernel, rfl, by decide +kernel, by decide +kernel⟩
noncomputable def b_ulaw_draw (A : As) : SF :=
  (sSeq (sIf (eB (eOp2 gtD (eOp2 ixD (eVar 0) (eC (.int 0))) (eC (.int 0)))) (sSeq (sAsg (eOp2 modD (eOp2 ixD (eVar 0) (eC (.int 0))) (eVar 1)) (gN 2)) (sSeq (sAsg (eOp2 divD (eOp2 ixD (eVar 0) (eC (.int 0))) (eVar 1)) (gSubD (eVar 0) (eC (.int 0)))) (sRet (eVar 2)))) sNext) (sSeq (sAsg (eOp2 modD (eOp2 addD (eOp2 mulD (eOp2 ixD (eVar 0) (eC (.int 1))) (eC (.int 48271))) (eC (.int 11))) (eC (.int 2147483647))) (gSubD (eVar 0) (eC (.int 1)))) (sRet (eOp2 modD (eOp2 divD (eOp2 modD (eOp2 mulD (eOp2 ixD (eVar 0) (eC (.int 1))) (eOp2 ixD (eVar 0) (eC (.int 1)))) (eC (.int 2147483629))) (eC (.int 64))) (eVar 1)))))
noncomputable def g_ulaw_draw (A : As) : List D → M D := callM 2 3 (b_ulaw_draw A)

/-! ### _law_rows -/
abbrev s_ulaw_rows : Stmt := top 43
theorem sc_ulaw_rows : FnScope ["_law_pool_here", "_law_size", "_law_rows_here", "_law_a", "_law_b", "_law_colour"] ["_law_pool_here", "_law_size"] (defScope s_ulaw_rows) := ⟨rfl, rfl, rfl, by decide +kernel, rfl, by decide +kernel, by decide +kernel⟩
noncomputable def b_ulaw_rows (A : As) : SF :=
  (sSeq (sAsg (eLcN (iR1 (eCons (eVar 1) eNil)) (gN 3) [3] eYes (eOp2 mulN (eLst (eCons (eC (.int 0)) eNil)) (eVar 1))) (gN 2)) (sSeq (sFor (iR1 (eCons (eVar 1) eNil)) (gN 3) (sScope [4, 5] (sFor (iR2 (eCons (eVar 3) (eCons (eVar 1) eNil))) (gN 4) (sScope [4, 5] (sSeq (sAsg (eCall (g_ulaw_draw A) (eCons (eVar 0) (eCons (eVar 1) eNil))) (gN 5)) (sSeq (sAsg (eVar 5) (gSubD (eOp2 ixD (eVar 2) (eVar 3)) (eVar 4))) (sAsg (eVar 5) (gSubD (eOp2 ixD (eVar 2) (eVar 4)) (eVar 3))))))))) (sRet (eVar 2))))
noncomputable def g_ulaw_rows (A : As) : List D → M D := callM 2 6 (b_ulaw_rows A)

/-! ### _law_kind -/
abbrev s_ulaw_kind : Stmt := top 44
theorem sc_ulaw_kind : FnScope ["_law_pool_here", "_law_size", "_law_way", "_law_a", "_law_b"] ["_law_pool_here", "_law_size"] (defScope s_ulaw_kind) := ⟨rfl, rfl, rfl, by decide +kernel, rfl, by decide +kernel, by decide +kernel⟩
noncomputable def b_ulaw_kind (A : As) : SF :=
  (sSeq (sAsg (eCall (g_ulaw_draw A) (eCons (eVar 0) (eCons (eC (.int 6)) eNil))) (gN 2)) (sSeq (sIf (eB (eOp2 eqD (eVar 2) (eC (.int 0)))) (sRet (eLc (iR1 (eCons (eVar 1) eNil)) (gN 3) [3] eYes (eLc (iR1 (eCons (eVar 1) eNil)) (gN 4) [4] eYes (eOp2 modD (eOp2 addD (eVar 3) (eVar 4)) (eVar 1))))) sNext) (sSeq (sIf (eB (eOp2 eqD (eVar 2) (eC (.int 1)))) (sRet (eLc (iR1 (eCons (eVar 1) eNil)) (gN 3) [3] eYes (eLc (iR1 (eCons (eVar 1) eNil)) (gN 4) [4] eYes (eCall max2D (eCons (eVar 3) (eCons (eVar 4) eNil)))))) sNext) (sSeq (sIf (eB (eOp2 eqD (eVar 2) (eC (.int 2)))) (sRet (eLc (iR1 (eCons (eVar 1) eNil)) (gN 3) [3] eYes (eLc (iR1 (eCons (eVar 1) eNil)) (gN 4) [4] eYes (eCall min2D (eCons (eOp2 addD (eVar 3) (eVar 4)) (eCons (eOp2 subD (eVar 1) (eC (.int 1))) eNil)))))) sNext) (sSeq (sIf (eB (eOp2 eqD (eVar 2) (eC (.int 3)))) (sRet (eLc (iR1 (eCons (eVar 1) eNil)) (gN 3) [3] eYes (eLc (iR1 (eCons (eVar 1) eNil)) (gN 4) [4] eYes (eOp2 modD (eOp2 mulD (eVar 3) (eVar 4)) (eVar 1))))) sNext) (sRet (eCall (g_ulaw_rows A) (eCons (eVar 0) (eCons (eVar 1) eNil)))))))))
noncomputable def g_ulaw_kind (A : As) : List D → M D := callM 2 5 (b_ulaw_kind A)

/-! ### Table.size -/
abbrev s_Table_size : Stmt := inClass (top 38) 1
theorem sc_Table_size : FnScope ["self"] ["self"] (defScope s_Table_size) := ⟨rfl, rfl, rfl, by decide +kernel, rfl, by decide +kernel, by decide +kernel⟩
noncomputable def b_Table_size (A : As) : SF :=
  (sRet (eCall lenD (eCons (eFld A.C_Table "grid" (eVar 0)) eNil)))
noncomputable def g_Table_size (A : As) : List D → M D := callM 1 1 (b_Table_size A)

/-! ### is_integer -/
abbrev s_is_integer : Stmt := top 13
theorem sc_is_integer : FnScope ["value"] ["value"] (defScope s_is_integer) := ⟨rfl, rfl, rfl, by decide +kernel, rfl, by decide +kernel, by decide +kernel⟩
noncomputable def b_is_integer (A : As) : SF :=
  (sRet (eAnd (eIsi (anB "int" [A.C_Jar, A.C_Table]) (eVar 0)) (eNot (eIsi (anB "bool" [A.C_Jar, A.C_Table]) (eVar 0)))))
noncomputable def g_is_integer (A : As) : List D → M D := callM 1 1 (b_is_integer A)

/-! ### is_colour -/
abbrev s_is_colour : Stmt := top 14
theorem sc_is_colour : FnScope ["value", "size"] ["value", "size"] (defScope s_is_colour) := ⟨rfl, rfl, rfl, by decide +kernel, rfl, by decide +kernel, by decide +kernel⟩
noncomputable def b_is_colour (A : As) : SF :=
  (sRet (eAnd (eCall (g_is_integer A) (eCons (eVar 0) eNil)) (eCh leD ltD (eC (.int 0)) (eVar 0) (eVar 1))))
noncomputable def g_is_colour (A : As) : List D → M D := callM 2 2 (b_is_colour A)

/-! ### need_colours -/
abbrev s_need_colours : Stmt := top 17
theorem sc_need_colours : FnScope ["values", "size", "value"] ["values", "size"] (defScope s_need_colours) := ⟨rfl, rfl, rfl, by decide +kernel, rfl, by decide +kernel, by decide +kernel⟩
noncomputable def b_need_colours (A : As) : SF :=
  (sFor (iSq (eVar 0)) (gN 2) (sScope [2] (sIf (tNotD (eTru (eCall (g_is_colour A) (eCons (eVar 2) (eCons (eVar 1) eNil))))) sNo sNext)))
noncomputable def g_need_colours (A : As) : List D → M D := callM 2 3 (b_need_colours A)

/-! ### is_pair -/
abbrev s_is_pair : Stmt := top 16
theorem sc_is_pair : FnScope ["value"] ["value"] (defScope s_is_pair) := ⟨rfl, rfl, rfl, by decide +kernel, rfl, by decide +kernel, by decide +kernel⟩
noncomputable def b_is_pair (A : As) : SF :=
  (sRet (eAnd (eIsi (anB "tuple" [A.C_Jar, A.C_Table]) (eVar 0)) (eOp2 eqD (eCall lenD (eCons (eVar 0) eNil)) (eC (.int 2)))))
noncomputable def g_is_pair (A : As) : List D → M D := callM 1 1 (b_is_pair A)

/-! ### Table.__getitem__ -/
abbrev s_Table_uugetitemuu : Stmt := inClass (top 38) 4
theorem sc_Table_uugetitemuu : FnScope ["self", "at"] ["self", "at"] (defScope s_Table_uugetitemuu) := ⟨rfl, rfl, rfl, by decide +kernel, rfl, by decide +kernel, by decide +kernel⟩
noncomputable def b_Table_uugetitemuu (A : As) : SF :=
  (sSeq (sIf (tNotD (eTru (eCall (g_is_pair A) (eCons (eVar 1) eNil)))) sNo sNext) (sSeq (sExpr (eCall (g_need_colours A) (eCons (eVar 1) (eCons (eCall lenD (eCons (eFld A.C_Table "grid" (eVar 0)) eNil)) eNil)))) (sRet (eOp2 ixD (eOp2 ixD (eFld A.C_Table "grid" (eVar 0)) (eOp2 ixD (eVar 1) (eC (.int 0)))) (eOp2 ixD (eVar 1) (eC (.int 1)))))))
noncomputable def g_Table_uugetitemuu (A : As) : List D → M D := callM 2 2 (b_Table_uugetitemuu A)

/-! ### is_disputed -/
abbrev s_is_disputed : Stmt := top 29
theorem sc_is_disputed : FnScope ["table", "a", "b", "c"] ["table", "a", "b", "c"] (defScope s_is_disputed) := ⟨rfl, rfl, rfl, by decide +kernel, rfl, by decide +kernel, by decide +kernel⟩
noncomputable def b_is_disputed (A : As) : SF :=
  (sRet (eOp2 neD (eSub A.C_Table (g_Table_uugetitemuu A) (eVar 0) (eTup (eCons (eSub A.C_Table (g_Table_uugetitemuu A) (eVar 0) (eTup (eCons (eVar 1) (eCons (eVar 2) eNil)))) (eCons (eVar 3) eNil)))) (eSub A.C_Table (g_Table_uugetitemuu A) (eVar 0) (eTup (eCons (eVar 1) (eCons (eSub A.C_Table (g_Table_uugetitemuu A) (eVar 0) (eTup (eCons (eVar 2) (eCons (eVar 3) eNil)))) eNil))))))
noncomputable def g_is_disputed (A : As) : List D → M D := callM 4 4 (b_is_disputed A)

/-! ### first_dispute -/
abbrev s_first_dispute : Stmt := top 30
theorem sc_first_dispute : FnScope ["table", "colours", "a", "b", "c"] ["table"] (defScope s_first_dispute) := ⟨rfl, rfl, rfl, by decide +kernel, rfl, by decide +kernel, by decide +kernel⟩
noncomputable def b_first_dispute (A : As) : SF :=
  (sSeq (sAsg (eListR1 (eProp A.C_Table (g_Table_size A) (eVar 0))) (gN 1)) (sSeq (sFor (iSq (eVar 1)) (gN 2) (sScope [2, 3, 4] (sFor (iSq (eVar 1)) (gN 3) (sScope [3, 4] (sFor (iSq (eVar 1)) (gN 4) (sScope [4] (sIf (eTru (eCall (g_is_disputed A) (eCons (eVar 0) (eCons (eVar 2) (eCons (eVar 3) (eCons (eVar 4) eNil)))))) (sRet (eTup (eCons (eVar 2) (eCons (eVar 3) (eCons (eVar 4) eNil))))) sNext))))))) (sRet (eC .non))))
noncomputable def g_first_dispute (A : As) : List D → M D := callM 1 5 (b_first_dispute A)

/-! ### draw_of -/
abbrev s_draw_of : Stmt := top 32
theorem sc_draw_of : FnScope ["a", "b"] ["a", "b"] (defScope s_draw_of) := ⟨rfl, rfl, rfl, by decide +kernel, rfl, by decide +kernel, by decide +kernel⟩
noncomputable def b_draw_of (A : As) : SF :=
  (sRet (eTup (eCons (eCall min2D (eCons (eVar 0) (eCons (eVar 1) eNil))) (eCons (eCall max2D (eCons (eVar 0) (eCons (eVar 1) eNil))) eNil))))
noncomputable def g_draw_of (A : As) : List D → M D := callM 2 2 (b_draw_of A)

/-! ### is_sequence -/
abbrev s_is_sequence : Stmt := top 15
theorem sc_is_sequence : FnScope ["value"] ["value"] (defScope s_is_sequence) := ⟨rfl, rfl, rfl, by decide +kernel, rfl, by decide +kernel, by decide +kernel⟩
noncomputable def b_is_sequence (A : As) : SF :=
  (sRet (eIsi (anB2 "list" "tuple" [A.C_Jar, A.C_Table]) (eVar 0)))
noncomputable def g_is_sequence (A : As) : List D → M D := callM 1 1 (b_is_sequence A)

/-! ### is_count -/
abbrev s_is_count : Stmt := top 19
theorem sc_is_count : FnScope ["value"] ["value"] (defScope s_is_count) := ⟨rfl, rfl, rfl, by decide +kernel, rfl, by decide +kernel, by decide +kernel⟩
noncomputable def b_is_count (A : As) : SF :=
  (sRet (eAnd (eCall (g_is_integer A) (eCons (eVar 0) eNil)) (eOp2 geD (eVar 0) (eC (.int 0)))))
noncomputable def g_is_count (A : As) : List D → M D := callM 1 1 (b_is_count A)

/-! ### Jar.__init__ -/
abbrev s_Jar_uuinituu : Stmt := inClass (top 21) 0
theorem sc_Jar_uuinituu : FnScope ["self", "counts", "count"] ["self", "counts"] (defScope s_Jar_uuinituu) := ⟨rfl, rfl, rfl, by decide +kernel, rfl, by decide +kernel, by decide +kernel⟩
noncomputable def b_Jar_uuinituu (A : As) : SF :=
  (sSeq (sIf (tOrD (tNotD (eTru (eCall (g_is_sequence A) (eCons (eVar 1) eNil)))) (tNotD (eB (eCh leD leD (eC (.int 1)) (eCall lenD (eCons (eVar 1) eNil)) (eC (.int 8)))))) sNo sNext) (sSeq (sIf (tNotD (eTru (eCall allD (eCons (eLc (iSq (eVar 1)) (gN 2) [2] eYes (eCall (g_is_count A) (eCons (eVar 2) eNil))) eNil)))) sNo sNext) (sFldD A.C_Jar "amounts" (eVar 0) (eCall tupleD (eCons (eVar 1) eNil)))))
noncomputable def g_Jar_uuinituu (A : As) : List D → M D := callM 2 3 (b_Jar_uuinituu A)

/-! ### Jar.of_beans -/
abbrev s_Jar_of_beans : Stmt := inClass (top 21) 1
theorem sc_Jar_of_beans : FnScope ["cls", "size", "beans", "counts", "bean"] ["cls", "size", "beans"] (defScope s_Jar_of_beans) := ⟨rfl, rfl, rfl, by decide +kernel, rfl, by decide +kernel, by decide +kernel⟩
noncomputable def b_Jar_of_beans (A : As) : SF :=
  (sSeq (sIf (tOrD (tNotD (eTru (eCall (g_is_integer A) (eCons (eVar 1) eNil)))) (tNotD (eB (eCh leD leD (eC (.int 1)) (eVar 1) (eC (.int 8)))))) sNo sNext) (sSeq (sIf (tNotD (eTru (eCall (g_is_sequence A) (eCons (eVar 2) eNil)))) sNo sNext) (sSeq (sExpr (eCall (g_need_colours A) (eCons (eVar 2) (eCons (eVar 1) eNil)))) (sSeq (sAsg (eOp2 mulN (eLst (eCons (eC (.int 0)) eNil)) (eVar 1)) (gN 3)) (sSeq (sFor (iSq (eVar 2)) (gN 4) (sScope [4] (sAugadd (eVar 3) (eVar 4) (eC (.int 1))))) (sRet (eMakeL 0 A.C_Jar (g_Jar_uuinituu A) (eCons (eMv (eVar 3)) eNil))))))))
noncomputable def g_Jar_of_beans (A : As) : List D → M D := callM 3 5 (b_Jar_of_beans A)

/-! ### dispute -/
abbrev s_dispute : Stmt := top 33
theorem sc_dispute : FnScope ["table", "triple", "a", "b", "c", "one", "other"] ["table"] (defScope s_dispute) := ⟨rfl, rfl, rfl, by decide +kernel, rfl, by decide +kernel, by decide +kernel⟩
noncomputable def b_dispute (A : As) : SF :=
  (sSeq (sAsg (eCall (g_first_dispute A) (eCons (eVar 0) eNil)) (gN 1)) (sSeq (sIf (eB (eOp2 isD (eVar 1) (eC .non))) (sRet (eC .non)) sNext) (sSeq (sAsg (eVar 1) (gT [(gN 2), (gN 3), (gN 4)])) (sSeq (sAsg (eLst (eCons (eCall (g_draw_of A) (eCons (eVar 2) (eCons (eVar 3) eNil))) (eCons (eCall (g_draw_of A) (eCons (eSub A.C_Table (g_Table_uugetitemuu A) (eVar 0) (eTup (eCons (eVar 2) (eCons (eVar 3) eNil)))) (eCons (eVar 4) eNil))) eNil))) (gN 5)) (sSeq (sAsg (eLst (eCons (eCall (g_draw_of A) (eCons (eVar 3) (eCons (eVar 4) eNil))) (eCons (eCall (g_draw_of A) (eCons (eVar 2) (eCons (eSub A.C_Table (g_Table_uugetitemuu A) (eVar 0) (eTup (eCons (eVar 3) (eCons (eVar 4) eNil)))) eNil))) eNil))) (gN 6)) (sRet (eTup (eCons (eCM A.C_Jar (g_Jar_of_beans A) (eCons (eProp A.C_Table (g_Table_size A) (eVar 0)) (eCons (eLst (eCons (eVar 2) (eCons (eVar 3) (eCons (eVar 4) eNil)))) eNil))) (eCons (eVar 5) (eCons (eVar 6) eNil))))))))))
noncomputable def g_dispute (A : As) : List D → M D := callM 1 7 (b_dispute A)

/-! ### passes -/
abbrev s_passes : Stmt := top 31
theorem sc_passes : FnScope ["table"] ["table"] (defScope s_passes) := ⟨rfl, rfl, rfl, by decide +kernel, rfl, by decide +kernel, by decide +kernel⟩
noncomputable def b_passes (A : As) : SF :=
  (sRet (eOp2 isD (eCall (g_first_dispute A) (eCons (eVar 0) eNil)) (eC .non)))
noncomputable def g_passes (A : As) : List D → M D := callM 1 1 (b_passes A)

/-! ### first_wrong_place -/
abbrev s_first_wrong_place : Stmt := top 37
theorem sc_first_wrong_place : FnScope ["rows", "is_entry", "a", "row", "b", "entry"] ["rows", "is_entry"] (defScope s_first_wrong_place) := ⟨rfl, rfl, rfl, by decide +kernel, rfl, by decide +kernel, by decide +kernel⟩
noncomputable def b_first_wrong_place (A : As) : SF :=
  (sSeq (sFor (iEnA (eCons (eVar 0) eNil)) (gT [(gN 2), (gN 3)]) (sScope [2, 3, 4, 5] (sFor (iEnA (eCons (eVar 3) eNil)) (gT [(gN 4), (gN 5)]) (sScope [4, 5] (sIf (tOrD (tNotD (eTru (eCallL 1 A.F_is_colour (g_is_colour A) (eCons (eVar 5) (eCons (eCall lenD (eCons (eVar 0) eNil)) eNil))))) (tAndD (eB (eOp2 ltD (eVar 4) (eVar 2))) (eB (eOp2 neD (eVar 5) (eOp2 ixD (eOp2 ixD (eVar 0) (eVar 4)) (eVar 2)))))) (sRet (eTup (eCons (eVar 2) (eCons (eVar 4) eNil)))) sNext))))) (sRet (eC .non)))
noncomputable def g_first_wrong_place (A : As) : List D → M D := callM 2 6 (b_first_wrong_place A)

/-! ### is_square -/
abbrev s_is_square : Stmt := top 36
theorem sc_is_square : FnScope ["rows", "row"] ["rows"] (defScope s_is_square) := ⟨rfl, rfl, rfl, by decide +kernel, rfl, by decide +kernel, by decide +kernel⟩
noncomputable def b_is_square (A : As) : SF :=
  (sSeq (sIf (tOrD (tNotD (eTru (eCall (g_is_sequence A) (eCons (eVar 0) eNil)))) (tNotD (eB (eCh leD leD (eC (.int 1)) (eCall lenD (eCons (eVar 0) eNil)) (eC (.int 8)))))) (sRet (eC (.bl false))) sNext) (sRet (eCall allD (eCons (eLc (iSq (eVar 0)) (gN 1) [1] eYes (eAnd (eCall (g_is_sequence A) (eCons (eVar 1) eNil)) (eOp2 eqD (eCall lenD (eCons (eVar 1) eNil)) (eCall lenD (eCons (eVar 0) eNil))))) eNil))))
noncomputable def g_is_square (A : As) : List D → M D := callM 1 2 (b_is_square A)

/-! ### Table.__init__ -/
abbrev s_Table_uuinituu : Stmt := inClass (top 38) 0
theorem sc_Table_uuinituu : FnScope ["self", "rows", "place", "row"] ["self", "rows"] (defScope s_Table_uuinituu) := ⟨rfl, rfl, rfl, by decide +kernel, rfl, by decide +kernel, by decide +kernel⟩
noncomputable def b_Table_uuinituu (A : As) : SF :=
  (sSeq (sIf (tNotD (eTru (eCall (g_is_square A) (eCons (eVar 1) eNil)))) sNo sNext) (sSeq (sAsg (eCall (g_first_wrong_place A) (eCons (eVar 1) (eCons (eC (.fn A.F_is_colour)) eNil))) (gN 2)) (sSeq (sIf (eB (eOp2 nisD (eVar 2) (eC .non))) sNo sNext) (sFldD A.C_Table "grid" (eVar 0) (eCall tupleD (eCons (eLc (iSq (eVar 1)) (gN 3) [3] eYes (eCall tupleD (eCons (eVar 3) eNil))) eNil))))))
noncomputable def g_Table_uuinituu (A : As) : List D → M D := callM 2 4 (b_Table_uuinituu A)

/-! ### _law_first -/
abbrev s_ulaw_first : Stmt := top 45
theorem sc_ulaw_first : FnScope ["_law_rows_here", "_law_size", "_law_a", "_law_b", "_law_c", "_law_one", "_law_other"] ["_law_rows_here", "_law_size"] (defScope s_ulaw_first) := ⟨rfl, rfl, rfl, by decide +kernel, rfl, by decide +kernel, by decide +kernel⟩
noncomputable def b_ulaw_first (A : As) : SF :=
  (sSeq (sFor (iR1 (eCons (eVar 1) eNil)) (gN 2) (sScope [2, 3, 4, 5, 6] (sFor (iR1 (eCons (eVar 1) eNil)) (gN 3) (sScope [3, 4, 5, 6] (sFor (iR1 (eCons (eVar 1) eNil)) (gN 4) (sScope [4, 5, 6] (sSeq (sPar2 5 6 (eCons (eOp2 ixD (eOp2 ixD (eVar 0) (eVar 2)) (eVar 3)) (eCons (eOp2 ixD (eOp2 ixD (eVar 0) (eVar 3)) (eVar 4)) eNil))) (sIf (eB (eOp2 neD (eOp2 ixD (eOp2 ixD (eVar 0) (eVar 5)) (eVar 4)) (eOp2 ixD (eOp2 ixD (eVar 0) (eVar 2)) (eVar 6)))) (sRet (eTup (eCons (eVar 2) (eCons (eVar 3) (eCons (eVar 4) eNil))))) sNext)))))))) (sRet (eC .non)))
noncomputable def g_ulaw_first (A : As) : List D → M D := callM 2 7 (b_ulaw_first A)

/-! ### Jar.size -/
abbrev s_Jar_size : Stmt := inClass (top 21) 2
theorem sc_Jar_size : FnScope ["self"] ["self"] (defScope s_Jar_size) := ⟨rfl, rfl, rfl, by decide +kernel, rfl, by decide +kernel, by decide +kernel⟩
noncomputable def b_Jar_size (A : As) : SF :=
  (sRet (eCall lenD (eCons (eFld A.C_Jar "amounts" (eVar 0)) eNil)))
noncomputable def g_Jar_size (A : As) : List D → M D := callM 1 1 (b_Jar_size A)

/-! ### need_same_size -/
abbrev s_need_same_size : Stmt := top 20
theorem sc_need_same_size : FnScope ["one", "other"] ["one", "other"] (defScope s_need_same_size) := ⟨rfl, rfl, rfl, by decide +kernel, rfl, by decide +kernel, by decide +kernel⟩
noncomputable def b_need_same_size (A : As) : SF :=
  (sIf (eB (eOp2 neD (eOr2 A.C_Jar (eVar 0) (eProp A.C_Jar (g_Jar_size A) (eVar 0)) (eProp A.C_Table (g_Table_size A) (eVar 0))) (eProp A.C_Jar (g_Jar_size A) (eVar 1)))) sNo sNext)
noncomputable def g_need_same_size (A : As) : List D → M D := callM 2 2 (b_need_same_size A)

/-! ### Jar.__bool__ -/
abbrev s_Jar_uubooluu : Stmt := inClass (top 21) 8
theorem sc_Jar_uubooluu : FnScope ["self"] ["self"] (defScope s_Jar_uubooluu) := ⟨rfl, rfl, rfl, by decide +kernel, rfl, by decide +kernel, by decide +kernel⟩
noncomputable def b_Jar_uubooluu (A : As) : SF :=
  (sRet (eCall anyA (eCons (eFld A.C_Jar "amounts" (eVar 0)) eNil)))
noncomputable def g_Jar_uubooluu (A : As) : List D → M D := callM 1 1 (b_Jar_uubooluu A)

/-! ### need_beans -/
abbrev s_need_beans : Stmt := top 23
theorem sc_need_beans : FnScope ["table", "jar"] ["table", "jar"] (defScope s_need_beans) := ⟨rfl, rfl, rfl, by decide +kernel, rfl, by decide +kernel, by decide +kernel⟩
noncomputable def b_need_beans (A : As) : SF :=
  (sSeq (sExpr (eCall (g_need_same_size A) (eCons (eVar 0) (eCons (eVar 1) eNil)))) (sIf (tNotD (eTruO A.C_Jar (g_Jar_uubooluu A) (eVar 1))) sNo sNext))
noncomputable def g_need_beans (A : As) : List D → M D := callM 2 2 (b_need_beans A)

/-! ### Jar.__contains__ -/
abbrev s_Jar_uucontainsuu : Stmt := inClass (top 21) 7
theorem sc_Jar_uucontainsuu : FnScope ["self", "x"] ["self", "x"] (defScope s_Jar_uucontainsuu) := ⟨rfl, rfl, rfl, by decide +kernel, rfl, by decide +kernel, by decide +kernel⟩
noncomputable def b_Jar_uucontainsuu (A : As) : SF :=
  (sRet (eAnd (eCall (g_is_colour A) (eCons (eVar 1) (eCons (eCall lenD (eCons (eFld A.C_Jar "amounts" (eVar 0)) eNil)) eNil))) (eOp2 gtD (eOp2 ixD (eFld A.C_Jar "amounts" (eVar 0)) (eVar 1)) (eC (.int 0)))))
noncomputable def g_Jar_uucontainsuu (A : As) : List D → M D := callM 2 2 (b_Jar_uucontainsuu A)

/-! ### Jar.can_draw -/
abbrev s_Jar_can_draw : Stmt := inClass (top 21) 15
theorem sc_Jar_can_draw : FnScope ["self", "value", "a", "b", "colour"] ["self", "value"] (defScope s_Jar_can_draw) := ⟨rfl, rfl, rfl, by decide +kernel, rfl, by decide +kernel, by decide +kernel⟩
noncomputable def b_Jar_can_draw (A : As) : SF :=
  (sSeq (sIf (tOrD (tNotD (eTru (eCall (g_is_pair A) (eCons (eVar 1) eNil)))) (tNotD (eTru (eCall allD (eCons (eLc (iSq (eVar 1)) (gN 4) [4] eYes (eOp2 (inOD A.C_Jar (g_Jar_uucontainsuu A)) (eVar 4) (eVar 0))) eNil))))) (sRet (eC (.bl false))) sNext) (sSeq (sAsg (eVar 1) (gT [(gN 2), (gN 3)])) (sRet (eOr (eOp2 ltD (eVar 2) (eVar 3)) (eAnd (eOp2 eqD (eVar 2) (eVar 3)) (eOp2 gtD (eOp2 ixD (eFld A.C_Jar "amounts" (eVar 0)) (eVar 2)) (eC (.int 1))))))))
noncomputable def g_Jar_can_draw (A : As) : List D → M D := callM 2 5 (b_Jar_can_draw A)

/-! ### Jar.counts -/
abbrev s_Jar_counts : Stmt := inClass (top 21) 4
theorem sc_Jar_counts : FnScope ["self"] ["self"] (defScope s_Jar_counts) := ⟨rfl, rfl, rfl, by decide +kernel, rfl, by decide +kernel, by decide +kernel⟩
noncomputable def b_Jar_counts (A : As) : SF :=
  (sRet (eCall listD (eCons (eFld A.C_Jar "amounts" (eVar 0)) eNil)))
noncomputable def g_Jar_counts (A : As) : List D → M D := callM 1 1 (b_Jar_counts A)

noncomputable def b_Jar_countsN1 (A : As) : SF :=
  (sRet (eCall listN (eCons (eFld A.C_Jar "amounts" (eVar 0)) eNil)))
noncomputable def g_Jar_countsN1 (A : As) : List D → M D := callN 1 1 (b_Jar_countsN1 A)

/-! ### after -/
abbrev s_after : Stmt := top 22
theorem sc_after : FnScope ["table", "jar", "draw", "a", "b", "counts"] ["table", "jar", "draw"] (defScope s_after) := ⟨rfl, rfl, rfl, by decide +kernel, rfl, by decide +kernel, by decide +kernel⟩
noncomputable def b_after (A : As) : SF :=
  (sSeq (sExpr (eCall (g_need_same_size A) (eCons (eVar 0) (eCons (eVar 1) eNil)))) (sSeq (sIf (tNotD (eTru (eMeth A.C_Jar "can_draw" (g_Jar_can_draw A) (eVar 1) (eCons (eVar 2) eNil)))) sNo sNext) (sSeq (sAsg (eVar 2) (gT [(gN 3), (gN 4)])) (sSeq (sAsg (eMeth A.C_Jar "counts" (g_Jar_countsN1 A) (eVar 1) eNil) (gN 5)) (sSeq (sAugsub (eVar 5) (eVar 3) (eC (.int 1))) (sSeq (sAugsub (eVar 5) (eVar 4) (eC (.int 1))) (sSeq (sAugadd (eVar 5) (eSub A.C_Table (g_Table_uugetitemuu A) (eVar 0) (eTup (eCons (eVar 3) (eCons (eVar 4) eNil)))) (eC (.int 1))) (sRet (eMake A.C_Jar (g_Jar_uuinituu A) (eCons (eMv (eVar 5)) eNil))))))))))
noncomputable def g_after (A : As) : List D → M D := callM 3 6 (b_after A)

/-! ### walked -/
abbrev s_walked : Stmt := top 24
theorem sc_walked : FnScope ["table", "jar", "draws", "jars", "draw"] ["table", "jar", "draws"] (defScope s_walked) := ⟨rfl, rfl, rfl, by decide +kernel, rfl, by decide +kernel, by decide +kernel⟩
noncomputable def b_walked (A : As) : SF :=
  (sSeq (sAsg (eNewL (eCons (eVar 1) eNil)) (gN 3)) (sSeq (sFor (iSq (eVar 2)) (gN 4) (sScope [4] (sSeq (sIf (tNotD (eTru (eMeth A.C_Jar "can_draw" (g_Jar_can_draw A) (eOp2 ixD (eVar 3) (eNeg (eC (.int 1)))) (eCons (eVar 4) eNil)))) sBreak sNext) (sExpr (eApp (eVar 3) (eCall (g_after A) (eCons (eVar 0) (eCons (eOp2 ixD (eVar 3) (eNeg (eC (.int 1)))) (eCons (eVar 4) eNil))))))))) (sRet (eVar 3))))
noncomputable def g_walked (A : As) : List D → M D := callM 3 5 (b_walked A)

/-! ### Jar.total -/
abbrev s_Jar_total : Stmt := inClass (top 21) 3
theorem sc_Jar_total : FnScope ["self"] ["self"] (defScope s_Jar_total) := ⟨rfl, rfl, rfl, by decide +kernel, rfl, by decide +kernel, by decide +kernel⟩
noncomputable def b_Jar_total (A : As) : SF :=
  (sRet (eCall sumA (eCons (eFld A.C_Jar "amounts" (eVar 0)) eNil)))
noncomputable def g_Jar_total (A : As) : List D → M D := callM 1 1 (b_Jar_total A)

/-! ### played -/
abbrev s_played : Stmt := top 26
theorem sc_played : FnScope ["table", "jar", "way", "jars"] ["table", "jar", "way"] (defScope s_played) := ⟨rfl, rfl, rfl, by decide +kernel, rfl, by decide +kernel, by decide +kernel⟩
noncomputable def b_played (A : As) : SF :=
  (sSeq (sExpr (eCall (g_need_beans A) (eCons (eVar 0) (eCons (eVar 1) eNil)))) (sSeq (sIf (tNotD (eTru (eIsi (anB "list" [A.C_Jar, A.C_Table]) (eVar 2)))) sNo sNext) (sSeq (sAsg (eCall (g_walked A) (eCons (eVar 0) (eCons (eVar 1) (eCons (eVar 2) eNil)))) (gN 3)) (sSeq (sIf (tOrD (eB (eOp2 leD (eCall lenD (eCons (eVar 3) eNil)) (eCall lenD (eCons (eVar 2) eNil)))) (eB (eOp2 gtD (eProp A.C_Jar (g_Jar_total A) (eOp2 ixD (eVar 3) (eNeg (eC (.int 1))))) (eC (.int 1))))) sNo sNext) (sRet (eVar 3))))))
noncomputable def g_played (A : As) : List D → M D := callM 3 4 (b_played A)

/-! ### Jar.colours -/
abbrev s_Jar_colours : Stmt := inClass (top 21) 5
theorem sc_Jar_colours : FnScope ["self", "colour", "count"] ["self"] (defScope s_Jar_colours) := ⟨rfl, rfl, rfl, by decide +kernel, rfl, by decide +kernel, by decide +kernel⟩
noncomputable def b_Jar_colours (A : As) : SF :=
  (sRet (eLc (iEnA (eCons (eFld A.C_Jar "amounts" (eVar 0)) eNil)) (gT [gN 1, gN 2]) [1, 2] (eB (eOp2 gtD (eVar 2) (eC (.int 0)))) (eVar 1)))
noncomputable def g_Jar_colours (A : As) : List D → M D := callM 1 3 (b_Jar_colours A)

/-! ### last_of -/
abbrev s_last_of : Stmt := top 27
theorem sc_last_of : FnScope ["table", "jar", "way", "jars"] ["table", "jar", "way"] (defScope s_last_of) := ⟨rfl, rfl, rfl, by decide +kernel, rfl, by decide +kernel, by decide +kernel⟩
noncomputable def b_last_of (A : As) : SF :=
  (sSeq (sAsg (eCall (g_played A) (eCons (eVar 0) (eCons (eVar 1) (eCons (eVar 2) eNil)))) (gN 3)) (sRet (eOp2 ixD (eMeth A.C_Jar "colours" (g_Jar_colours A) (eOp2 ixD (eVar 3) (eNeg (eC (.int 1)))) eNil) (eC (.int 0)))))
noncomputable def g_last_of (A : As) : List D → M D := callM 3 4 (b_last_of A)

/-! ### is_way -/
abbrev s_is_way : Stmt := top 25
theorem sc_is_way : FnScope ["table", "jar", "way", "jars"] ["table", "jar", "way"] (defScope s_is_way) := ⟨rfl, rfl, rfl, by decide +kernel, rfl, by decide +kernel, by decide +kernel⟩
noncomputable def b_is_way (A : As) : SF :=
  (sSeq (sIf (tNotD (eTru (eIsi (anB "list" [A.C_Jar, A.C_Table]) (eVar 2)))) (sRet (eC (.bl false))) sNext) (sSeq (sAsg (eCall (g_walked A) (eCons (eVar 0) (eCons (eVar 1) (eCons (eVar 2) eNil)))) (gN 3)) (sRet (eAnd (eOp2 eqD (eCall lenD (eCons (eVar 3) eNil)) (eOp2 addD (eCall lenD (eCons (eVar 2) eNil)) (eC (.int 1)))) (eOp2 eqD (eProp A.C_Jar (g_Jar_total A) (eOp2 ixD (eVar 3) (eNeg (eC (.int 1))))) (eC (.int 1)))))))
noncomputable def g_is_way (A : As) : List D → M D := callM 3 4 (b_is_way A)

/-! ### is_dispute -/
abbrev s_is_dispute : Stmt := top 34
theorem sc_is_dispute : FnScope ["table", "value", "jar", "one", "other"] ["table", "value"] (defScope s_is_dispute) := ⟨rfl, rfl, rfl, by decide +kernel, rfl, by decide +kernel, by decide +kernel⟩
noncomputable def b_is_dispute (A : As) : SF :=
  (sSeq (sIf (tOrD (tNotD (eTru (eIsi (anB "tuple" [A.C_Jar, A.C_Table]) (eVar 1)))) (eB (eOp2 neD (eCall lenD (eCons (eVar 1) eNil)) (eC (.int 3))))) (sRet (eC (.bl false))) sNext) (sSeq (sAsg (eVar 1) (gT [(gN 2), (gN 3), (gN 4)])) (sSeq (sIf (tOrD (tNotD (eTru (eIsi (anO A.C_Jar [A.C_Table]) (eVar 2)))) (tOrD (eB (eOp2 neD (eProp A.C_Jar (g_Jar_size A) (eVar 2)) (eProp A.C_Table (g_Table_size A) (eVar 0)))) (eB (eOp2 neD (eProp A.C_Jar (g_Jar_total A) (eVar 2)) (eC (.int 3)))))) (sRet (eC (.bl false))) sNext) (sSeq (sIf (tOrD (tNotD (eTru (eCall (g_is_way A) (eCons (eVar 0) (eCons (eVar 2) (eCons (eVar 3) eNil)))))) (tNotD (eTru (eCall (g_is_way A) (eCons (eVar 0) (eCons (eVar 2) (eCons (eVar 4) eNil))))))) (sRet (eC (.bl false))) sNext) (sRet (eOp2 neD (eCall (g_last_of A) (eCons (eVar 0) (eCons (eVar 2) (eCons (eVar 3) eNil)))) (eCall (g_last_of A) (eCons (eVar 0) (eCons (eVar 2) (eCons (eVar 4) eNil))))))))))
noncomputable def g_is_dispute (A : As) : List D → M D := callM 2 5 (b_is_dispute A)

/-! ### Jar.__add__ -/
abbrev s_Jar_uuadduu : Stmt := inClass (top 21) 11
theorem sc_Jar_uuadduu : FnScope ["self", "other", "one", "more"] ["self", "other"] (defScope s_Jar_uuadduu) := ⟨rfl, rfl, rfl, by decide +kernel, rfl, by decide +kernel, by decide +kernel⟩
noncomputable def b_Jar_uuadduu (A : As) : SF :=
  (sSeq (sIf (tNotD (eTru (eIsi (anO A.C_Jar [A.C_Table]) (eVar 1)))) sNo sNext) (sSeq (sExpr (eCall (g_need_same_size A) (eCons (eVar 0) (eCons (eVar 1) eNil)))) (sRet (eMake A.C_Jar (g_Jar_uuinituu A) (eCons (eLc (iZpA (eCons (eFld A.C_Jar "amounts" (eVar 0)) (eCons (eFld A.C_Jar "amounts" (eVar 1)) eNil))) (gT [gN 2, gN 3]) [2, 3] eYes (eOp2 addD (eVar 2) (eVar 3))) eNil)))))
noncomputable def g_Jar_uuadduu (A : As) : List D → M D := callM 2 4 (b_Jar_uuadduu A)

/-! ### law -/
abbrev s_law : Stmt := top 46
theorem sc_law : FnScope ["_law_script", "_law_k", "_law_pool_here", "_law_size", "_law_rows_here", "_law_table", "_law_triple", "_law_found", "_law_jar", "_law_one", "_law_other"] ["_law_script"] (defScope s_law) := ⟨rfl, rfl, rfl, by decide +kernel, rfl, by decide +kernel, by decide +kernel⟩
noncomputable def b_law (A : As) : SF :=
  (sSeq (sFor (iR1 (eCons (eCall max2D (eCons (eC (.int 1)) (eCons (eCall min2D (eCons (eCall lenD (eCons (eVar 0) eNil)) (eCons (eC (.int 10)) eNil))) eNil))) eNil)) (gN 1) (sScope [1, 2, 3, 4, 5, 6, 7, 8, 9, 10] (sSeq (sAsg (eCall (g_ulaw_poolN1 A) (eCons (eVar 0) (eCons (eVar 1) eNil))) (gN 2)) (sSeq (sAsg (eOp2 addD (eC (.int 1)) (eCall (g_ulaw_draw A) (eCons (eVar 2) (eCons (eC (.int 6)) eNil)))) (gN 3)) (sSeq (sAsg (eCall (g_ulaw_kind A) (eCons (eVar 2) (eCons (eVar 3) eNil))) (gN 4)) (sSeq (sPar2 5 6 (eCons (eMake A.C_Table (g_Table_uuinituu A) (eCons (eVar 4) eNil)) (eCons (eCall (g_ulaw_first A) (eCons (eVar 4) (eCons (eVar 3) eNil))) eNil))) (sSeq (sIf (tOrD (eB (eOp2 neD (eCall (g_first_dispute A) (eCons (eVar 5) eNil)) (eVar 6))) (eB (eOp2 neD (eCall (g_passes A) (eCons (eVar 5) eNil)) (eOp2 isD (eVar 6) (eC .non))))) (sRet (eC (.bl false))) sNext) (sSeq (sAsg (eCall (g_dispute A) (eCons (eVar 5) eNil)) (gN 7)) (sSeq (sIf (eB (eOp2 neD (eOp2 isD (eVar 7) (eC .non)) (eOp2 isD (eVar 6) (eC .non)))) (sRet (eC (.bl false))) sNext) (sIf (eB (eOp2 nisD (eVar 7) (eC .non))) (sSeq (sAsg (eVar 7) (gT [(gN 8), (gN 9), (gN 10)])) (sSeq (sIf (tOrD (eB (eOp2 neD (eProp A.C_Jar (g_Jar_total A) (eVar 8)) (eC (.int 3)))) (eB (eOp2 neD (eProp A.C_Jar (g_Jar_size A) (eVar 8)) (eVar 3)))) (sRet (eC (.bl false))) sNext) (sSeq (sIf (eB (eOp2 eqD (eCall (g_last_of A) (eCons (eVar 5) (eCons (eVar 8) (eCons (eVar 9) eNil)))) (eCall (g_last_of A) (eCons (eVar 5) (eCons (eVar 8) (eCons (eVar 10) eNil)))))) (sRet (eC (.bl false))) sNext) (sSeq (sIf (eB (eOp2 nisD (eCall (g_is_dispute A) (eCons (eVar 5) (eCons (eVar 7) eNil))) (eC (.bl true)))) (sRet (eC (.bl false))) sNext) (sSeq (sIf (eB (eOp2 nisD (eCall (g_is_dispute A) (eCons (eVar 5) (eCons (eTup (eCons (eVar 8) (eCons (eVar 10) (eCons (eVar 9) eNil)))) eNil))) (eC (.bl true)))) (sRet (eC (.bl false))) sNext) (sSeq (sIf (eB (eOp2 nisD (eCall (g_is_dispute A) (eCons (eVar 5) (eCons (eTup (eCons (eVar 8) (eCons (eVar 9) (eCons (eVar 9) eNil)))) eNil))) (eC (.bl false)))) (sRet (eC (.bl false))) sNext) (sIf (eB (eOp2 nisD (eCall (g_is_dispute A) (eCons (eVar 5) (eCons (eTup (eCons (eOp2 (binOD A.C_Jar (g_Jar_uuadduu A)) (eVar 8) (eVar 8)) (eCons (eVar 9) (eCons (eVar 10) eNil)))) eNil))) (eC (.bl false)))) (sRet (eC (.bl false))) sNext))))))) sNext)))))))))) (sRet (eAnd (eCall (g_passes A) (eCons (eMake A.C_Table (g_Table_uuinituu A) (eCons (eLst (eCons (eLst (eCons (eC (.int 0)) eNil)) eNil)) eNil)) eNil)) (eNot (eCall (g_passes A) (eCons (eMake A.C_Table (g_Table_uuinituu A) (eCons (eLst (eCons (eLst (eCons (eC (.int 1)) (eCons (eC (.int 0)) eNil))) (eCons (eLst (eCons (eC (.int 0)) (eCons (eC (.int 0)) eNil))) eNil))) eNil)) eNil))))))
noncomputable def g_law (A : As) : List D → M D := callM 1 11 (b_law A)

structure Txt (A : As) (K : PySem.W.Frag) (mg : Str → Option Value) where
  f_ulaw_pool : Addr
  fd_ulaw_pool : FuncData
  f_ulaw_draw : Addr
  fd_ulaw_draw : FuncData
  f_ulaw_rows : Addr
  fd_ulaw_rows : FuncData
  f_ulaw_kind : Addr
  fd_ulaw_kind : FuncData
  f_Table_size : Addr
  fd_Table_size : FuncData
  f_is_integer : Addr
  fd_is_integer : FuncData
  f_is_colour : Addr
  fd_is_colour : FuncData
  f_need_colours : Addr
  fd_need_colours : FuncData
  f_is_pair : Addr
  fd_is_pair : FuncData
  f_Table_uugetitemuu : Addr
  fd_Table_uugetitemuu : FuncData
  f_is_disputed : Addr
  fd_is_disputed : FuncData
  f_first_dispute : Addr
  fd_first_dispute : FuncData
  f_draw_of : Addr
  fd_draw_of : FuncData
  f_is_sequence : Addr
  fd_is_sequence : FuncData
  f_is_count : Addr
  fd_is_count : FuncData
  f_Jar_uuinituu : Addr
  fd_Jar_uuinituu : FuncData
  f_Jar_of_beans : Addr
  fd_Jar_of_beans : FuncData
  pp_Jar_of_beans : Addr
  f_dispute : Addr
  fd_dispute : FuncData
  f_passes : Addr
  fd_passes : FuncData
  f_first_wrong_place : Addr
  fd_first_wrong_place : FuncData
  f_is_square : Addr
  fd_is_square : FuncData
  f_Table_uuinituu : Addr
  fd_Table_uuinituu : FuncData
  f_ulaw_first : Addr
  fd_ulaw_first : FuncData
  f_Jar_size : Addr
  fd_Jar_size : FuncData
  f_need_same_size : Addr
  fd_need_same_size : FuncData
  f_Jar_uubooluu : Addr
  fd_Jar_uubooluu : FuncData
  f_need_beans : Addr
  fd_need_beans : FuncData
  f_Jar_uucontainsuu : Addr
  fd_Jar_uucontainsuu : FuncData
  f_Jar_can_draw : Addr
  fd_Jar_can_draw : FuncData
  f_Jar_counts : Addr
  fd_Jar_counts : FuncData
  f_after : Addr
  fd_after : FuncData
  f_walked : Addr
  fd_walked : FuncData
  f_Jar_total : Addr
  fd_Jar_total : FuncData
  f_played : Addr
  fd_played : FuncData
  f_Jar_colours : Addr
  fd_Jar_colours : FuncData
  f_last_of : Addr
  fd_last_of : FuncData
  f_is_way : Addr
  fd_is_way : FuncData
  f_is_dispute : Addr
  fd_is_dispute : FuncData
  f_Jar_uuadduu : Addr
  fd_Jar_uuadduu : FuncData
  f_law : Addr
  fd_law : FuncData
  pp_Jar_total : Addr
  pp_Jar_size : Addr
  pp_Table_size : Addr
  g_Jar : mg "Jar" = some (.ref A.C_Jar)
  i_Jar : InsT K A.C_Jar
  g_Table : mg "Table" = some (.ref A.C_Table)
  i_Table : InsT K A.C_Table
  F_ulaw_pool : Fun K "_law_pool" "_law_pool" s_ulaw_pool f_ulaw_pool fd_ulaw_pool
  b_ulaw_pool : Binds K fd_ulaw_pool ["_law_script", "_law_k"] []
  m_ulaw_pool : mg "_law_pool" = some (.ref f_ulaw_pool)
  F_ulaw_draw : Fun K "_law_draw" "_law_draw" s_ulaw_draw f_ulaw_draw fd_ulaw_draw
  b_ulaw_draw : Binds K fd_ulaw_draw ["_law_pool_here", "_law_many"] []
  m_ulaw_draw : mg "_law_draw" = some (.ref f_ulaw_draw)
  F_ulaw_rows : Fun K "_law_rows" "_law_rows" s_ulaw_rows f_ulaw_rows fd_ulaw_rows
  b_ulaw_rows : Binds K fd_ulaw_rows ["_law_pool_here", "_law_size"] []
  m_ulaw_rows : mg "_law_rows" = some (.ref f_ulaw_rows)
  F_ulaw_kind : Fun K "_law_kind" "_law_kind" s_ulaw_kind f_ulaw_kind fd_ulaw_kind
  b_ulaw_kind : Binds K fd_ulaw_kind ["_law_pool_here", "_law_size"] []
  m_ulaw_kind : mg "_law_kind" = some (.ref f_ulaw_kind)
  F_Table_size : Fun K "size" "Table.size" s_Table_size f_Table_size fd_Table_size
  b_Table_size : Binds K fd_Table_size ["self"] []
  F_is_integer : Fun K "is_integer" "is_integer" s_is_integer f_is_integer fd_is_integer
  b_is_integer : Binds K fd_is_integer ["value"] []
  m_is_integer : mg "is_integer" = some (.ref f_is_integer)
  F_is_colour : Fun K "is_colour" "is_colour" s_is_colour f_is_colour fd_is_colour
  b_is_colour : Binds K fd_is_colour ["value", "size"] []
  m_is_colour : mg "is_colour" = some (.ref f_is_colour)
  F_need_colours : Fun K "need_colours" "need_colours" s_need_colours f_need_colours fd_need_colours
  b_need_colours : Binds K fd_need_colours ["values", "size"] []
  m_need_colours : mg "need_colours" = some (.ref f_need_colours)
  F_is_pair : Fun K "is_pair" "is_pair" s_is_pair f_is_pair fd_is_pair
  b_is_pair : Binds K fd_is_pair ["value"] []
  m_is_pair : mg "is_pair" = some (.ref f_is_pair)
  F_Table_uugetitemuu : Fun K "__getitem__" "Table.__getitem__" s_Table_uugetitemuu f_Table_uugetitemuu fd_Table_uugetitemuu
  b_Table_uugetitemuu : Binds K fd_Table_uugetitemuu ["self", "at"] []
  F_is_disputed : Fun K "is_disputed" "is_disputed" s_is_disputed f_is_disputed fd_is_disputed
  b_is_disputed : Binds K fd_is_disputed ["table", "a", "b", "c"] []
  m_is_disputed : mg "is_disputed" = some (.ref f_is_disputed)
  F_first_dispute : Fun K "first_dispute" "first_dispute" s_first_dispute f_first_dispute fd_first_dispute
  b_first_dispute : Binds K fd_first_dispute ["table"] []
  m_first_dispute : mg "first_dispute" = some (.ref f_first_dispute)
  F_draw_of : Fun K "draw_of" "draw_of" s_draw_of f_draw_of fd_draw_of
  b_draw_of : Binds K fd_draw_of ["a", "b"] []
  m_draw_of : mg "draw_of" = some (.ref f_draw_of)
  F_is_sequence : Fun K "is_sequence" "is_sequence" s_is_sequence f_is_sequence fd_is_sequence
  b_is_sequence : Binds K fd_is_sequence ["value"] []
  m_is_sequence : mg "is_sequence" = some (.ref f_is_sequence)
  F_is_count : Fun K "is_count" "is_count" s_is_count f_is_count fd_is_count
  b_is_count : Binds K fd_is_count ["value"] []
  m_is_count : mg "is_count" = some (.ref f_is_count)
  F_Jar_uuinituu : Fun K "__init__" "Jar.__init__" s_Jar_uuinituu f_Jar_uuinituu fd_Jar_uuinituu
  b_Jar_uuinituu : Binds K fd_Jar_uuinituu ["self", "counts"] []
  F_Jar_of_beans : Fun K "of_beans" "Jar.of_beans" s_Jar_of_beans f_Jar_of_beans fd_Jar_of_beans
  b_Jar_of_beans : Binds K fd_Jar_of_beans ["cls", "size", "beans"] []
  h_Jar_of_beans : ClX.CMet K A.C_Jar (.type "type") "of_beans" pp_Jar_of_beans f_Jar_of_beans
  F_dispute : Fun K "dispute" "dispute" s_dispute f_dispute fd_dispute
  b_dispute : Binds K fd_dispute ["table"] []
  m_dispute : mg "dispute" = some (.ref f_dispute)
  F_passes : Fun K "passes" "passes" s_passes f_passes fd_passes
  b_passes : Binds K fd_passes ["table"] []
  m_passes : mg "passes" = some (.ref f_passes)
  F_first_wrong_place : Fun K "first_wrong_place" "first_wrong_place" s_first_wrong_place f_first_wrong_place fd_first_wrong_place
  b_first_wrong_place : Binds K fd_first_wrong_place ["rows", "is_entry"] []
  m_first_wrong_place : mg "first_wrong_place" = some (.ref f_first_wrong_place)
  F_is_square : Fun K "is_square" "is_square" s_is_square f_is_square fd_is_square
  b_is_square : Binds K fd_is_square ["rows"] []
  m_is_square : mg "is_square" = some (.ref f_is_square)
  F_Table_uuinituu : Fun K "__init__" "Table.__init__" s_Table_uuinituu f_Table_uuinituu fd_Table_uuinituu
  b_Table_uuinituu : Binds K fd_Table_uuinituu ["self", "rows"] []
  F_ulaw_first : Fun K "_law_first" "_law_first" s_ulaw_first f_ulaw_first fd_ulaw_first
  b_ulaw_first : Binds K fd_ulaw_first ["_law_rows_here", "_law_size"] []
  m_ulaw_first : mg "_law_first" = some (.ref f_ulaw_first)
  F_Jar_size : Fun K "size" "Jar.size" s_Jar_size f_Jar_size fd_Jar_size
  b_Jar_size : Binds K fd_Jar_size ["self"] []
  F_need_same_size : Fun K "need_same_size" "need_same_size" s_need_same_size f_need_same_size fd_need_same_size
  b_need_same_size : Binds K fd_need_same_size ["one", "other"] []
  m_need_same_size : mg "need_same_size" = some (.ref f_need_same_size)
  F_Jar_uubooluu : Fun K "__bool__" "Jar.__bool__" s_Jar_uubooluu f_Jar_uubooluu fd_Jar_uubooluu
  b_Jar_uubooluu : Binds K fd_Jar_uubooluu ["self"] []
  F_need_beans : Fun K "need_beans" "need_beans" s_need_beans f_need_beans fd_need_beans
  b_need_beans : Binds K fd_need_beans ["table", "jar"] []
  m_need_beans : mg "need_beans" = some (.ref f_need_beans)
  F_Jar_uucontainsuu : Fun K "__contains__" "Jar.__contains__" s_Jar_uucontainsuu f_Jar_uucontainsuu fd_Jar_uucontainsuu
  b_Jar_uucontainsuu : Binds K fd_Jar_uucontainsuu ["self", "x"] []
  F_Jar_can_draw : Fun K "can_draw" "Jar.can_draw" s_Jar_can_draw f_Jar_can_draw fd_Jar_can_draw
  b_Jar_can_draw : Binds K fd_Jar_can_draw ["self", "value"] []
  h_Jar_can_draw : Meth K A.C_Jar "can_draw" f_Jar_can_draw
  F_Jar_counts : Fun K "counts" "Jar.counts" s_Jar_counts f_Jar_counts fd_Jar_counts
  b_Jar_counts : Binds K fd_Jar_counts ["self"] []
  h_Jar_counts : Meth K A.C_Jar "counts" f_Jar_counts
  F_after : Fun K "after" "after" s_after f_after fd_after
  b_after : Binds K fd_after ["table", "jar", "draw"] []
  m_after : mg "after" = some (.ref f_after)
  F_walked : Fun K "walked" "walked" s_walked f_walked fd_walked
  b_walked : Binds K fd_walked ["table", "jar", "draws"] []
  m_walked : mg "walked" = some (.ref f_walked)
  F_Jar_total : Fun K "total" "Jar.total" s_Jar_total f_Jar_total fd_Jar_total
  b_Jar_total : Binds K fd_Jar_total ["self"] []
  F_played : Fun K "played" "played" s_played f_played fd_played
  b_played : Binds K fd_played ["table", "jar", "way"] []
  m_played : mg "played" = some (.ref f_played)
  F_Jar_colours : Fun K "colours" "Jar.colours" s_Jar_colours f_Jar_colours fd_Jar_colours
  b_Jar_colours : Binds K fd_Jar_colours ["self"] []
  h_Jar_colours : Meth K A.C_Jar "colours" f_Jar_colours
  F_last_of : Fun K "last_of" "last_of" s_last_of f_last_of fd_last_of
  b_last_of : Binds K fd_last_of ["table", "jar", "way"] []
  m_last_of : mg "last_of" = some (.ref f_last_of)
  F_is_way : Fun K "is_way" "is_way" s_is_way f_is_way fd_is_way
  b_is_way : Binds K fd_is_way ["table", "jar", "way"] []
  m_is_way : mg "is_way" = some (.ref f_is_way)
  F_is_dispute : Fun K "is_dispute" "is_dispute" s_is_dispute f_is_dispute fd_is_dispute
  b_is_dispute : Binds K fd_is_dispute ["table", "value"] []
  m_is_dispute : mg "is_dispute" = some (.ref f_is_dispute)
  F_Jar_uuadduu : Fun K "__add__" "Jar.__add__" s_Jar_uuadduu f_Jar_uuadduu fd_Jar_uuadduu
  b_Jar_uuadduu : Binds K fd_Jar_uuadduu ["self", "other"] []
  F_law : Fun K "law" "law" s_law f_law fd_law
  b_law : Binds K fd_law ["_law_script"] []
  m_law : mg "law" = some (.ref f_law)
  n_len : mg "len" = none
  n_min : mg "min" = none
  n_max : mg "max" = none
  n_range : mg "range" = none
  mk_Table : Mk K A.C_Table f_Table_uuinituu
  p_Jar_total : PropOf K A.C_Jar "total" pp_Jar_total f_Jar_total
  p_Jar_size : PropOf K A.C_Jar "size" pp_Jar_size f_Jar_size
  s_Jar_add : PySem.W.findIn K (.ref A.C_Jar) "__add__" = some (some (.ref f_Jar_uuadduu))
  f_Jar_add : PySem.W.isFn K (.ref f_Jar_uuadduu) = true
  e_Jar_add : PySem.W.selfFirst K A.C_Jar = true
  n_isinstance : mg "isinstance" = none
  y_Jar : ∀ t ∈ ["NoneType", "bool", "int", "str", "list", "tuple", "dict"], PySem.W.kitOne K (.type t) (.ref A.C_Jar) = some false
  z_Jar : ∀ C ∈ [A.C_Table], InsT K C ∧ PySem.W.kitOne K (.ref C) (.ref A.C_Jar) = some false
  a_Jar_amounts : NoAttr K A.C_Jar "amounts"
  n_zip : mg "zip" = none
  mk_Jar : Mk K A.C_Jar f_Jar_uuinituu
  q_tuple : ∀ C ∈ [A.C_Jar, A.C_Table], InsT K C ∧ PySem.W.kitOne K (.ref C) (.type "tuple") = some false
  n_tuple : mg "tuple" = none
  p_Table_size : PropOf K A.C_Table "size" pp_Table_size f_Table_size
  q_list : ∀ C ∈ [A.C_Jar, A.C_Table], InsT K C ∧ PySem.W.kitOne K (.ref C) (.type "list") = some false
  n_list : mg "list" = none
  n_enumerate : mg "enumerate" = none
  n_sum : mg "sum" = none
  s_Table_getitem : PySem.W.findIn K (.ref A.C_Table) "__getitem__" = some (some (.ref f_Table_uugetitemuu))
  f_Table_getitem : PySem.W.isFn K (.ref f_Table_uugetitemuu) = true
  n_Table_getitem : PySem.W.fnIn K f_Table_uugetitemuu = true
  s_Jar_contains : PySem.W.findIn K (.ref A.C_Jar) "__contains__" = some (some (.ref f_Jar_uucontainsuu))
  f_Jar_contains : PySem.W.isFn K (.ref f_Jar_uucontainsuu) = true
  n_all : mg "all" = none
  s_Jar_bool : PySem.W.findIn K (.ref A.C_Jar) "__bool__" = some (some (.ref f_Jar_uubooluu))
  f_Jar_bool : PySem.W.isFn K (.ref f_Jar_uubooluu) = true
  n_any : mg "any" = none
  v_is_colour : A.F_is_colour = f_is_colour
  a_Table_grid : NoAttr K A.C_Table "grid"
  c_MOST_COLOURS : ∃ t, mg "MOST_COLOURS" = some (.int 8 t)
  r_Jar : ClX.CRead K A.C_Jar (.type "type")
  q_int : ∀ C ∈ [A.C_Jar, A.C_Table], InsT K C ∧ PySem.W.kitOne K (.ref C) (.type "int") = some false
  n_int : mg "int" = none
  q_bool : ∀ C ∈ [A.C_Jar, A.C_Table], InsT K C ∧ PySem.W.kitOne K (.ref C) (.type "bool") = some false
  n_bool : mg "bool" = none
theorem q2_ok {K : PySem.W.Frag} {T T2 : String} {cs : List Addr} (h : ∀ C ∈ cs, InsT K C ∧ PySem.W.kitOne K (.ref C) (.type T) = some false) (h2 : ∀ C ∈ cs, InsT K C ∧ PySem.W.kitOne K (.ref C) (.type T2) = some false) : ∀ C ∈ cs, InsT K C ∧ PySem.W.kitOne K (.ref C) (.type T) = some false ∧ PySem.W.kitOne K (.ref C) (.type T2) = some false := fun C hC => ⟨(h C hC).1, (h C hC).2, (h2 C hC).2⟩
section
variable {P : Program} {w : World} {K : PySem.W.Frag} {mg : Str → Option Value} {base : Heap} {A : As}
theorem ok_ulaw_pool (T : Txt A K mg) : FnOk P w K mg base (L2.CX P w) 1 T.f_ulaw_pool T.fd_ulaw_pool ["_law_script", "_law_k"] (spD K (g_ulaw_pool A)) := by

  refine def_ok (k := 0) T.F_ulaw_pool sc_ulaw_pool (fun cdv A' outer s0 H E hr => ?_)
  have px : Passes (L2.CX P w) (cxOf (L2.CX P w) P w K mg base ["_law_script", "_law_k", "_law_cell", "_law_seed"] "_law_pool" (defScope s_ulaw_pool) T.f_ulaw_pool cdv A' outer s0 H E) E := passes_call (takes_of rfl rfl rfl rfl) (fun _ _ _ _ h => h)
  have nd := sc_ulaw_pool.nd
  have hu65 := units65 hr
  exact (dss_cons (ds_set de_int (fun h => ps_set (i := 2) nd rfl (Or.inl rfl) h)) (dss_cons (ds_if (dt_cmp od_lt (de_var 1 (pv 1)) (de_cb cd_len T.n_len (da_cons (de_var 0 (pv 0)) da_nil)) (nomark _)) (dss_one (ds_set (de_ix (de_var 0 (pv 0)) (de_var 1 (pv 1)) (fun _ _ => rfl)) (fun h => ps_set (i := 2) nd rfl (Or.inl rfl) h))) dss_nil) (dss_cons (ds_set (de_op od_mod (de_op od_pow (de_op od_add (de_op od_add (de_op od_mod (de_var 2 (pv 2)) de_int) (de_op od_mul (de_op od_mul de_int (de_var 1 (pv 1))) (de_var 1 (pv 1)))) de_int) de_int) de_int) (fun h => ps_set (i := 3) nd rfl (Or.inl rfl) h)) (dss_cons (ds_if (dt_cmp od_lt (de_var 2 (pv 2)) (de_op od_pow de_int de_int) (nomark _)) (dss_one (ds_set de_int (fun h => ps_set (i := 2) nd rfl (Or.inl rfl) h))) dss_nil) (dss_one (ds_ret (de_lst (da_cons (de_var 2 (pv 2)) (da_cons (de_var 3 (pv 3)) da_nil)))))))))

theorem ok_ulaw_poolN1 (T : Txt A K mg) : FnOk P w K mg base (L2.CX P w) 1 T.f_ulaw_pool T.fd_ulaw_pool ["_law_script", "_law_k"] (spD K (g_ulaw_poolN1 A)) := by

  refine def_okN (k := 0) T.F_ulaw_pool sc_ulaw_pool (fun cdv A' outer s0 H E hr => ?_)
  have px : Passes (L2.CX P w) (cxOf (L2.CX P w) P w K mg base ["_law_script", "_law_k", "_law_cell", "_law_seed"] "_law_pool" (defScope s_ulaw_pool) T.f_ulaw_pool cdv A' outer s0 H E) E := passes_call (takes_of rfl rfl rfl rfl) (fun _ _ _ _ h => h)
  have nd := sc_ulaw_pool.nd
  have hu65 := units65 hr
  exact (dss_cons (ds_set de_int (fun h => ps_set (i := 2) nd rfl (Or.inl rfl) h)) (dss_cons (ds_if (dt_cmp od_lt (de_var 1 (pv 1)) (de_cb cd_len T.n_len (da_cons (de_var 0 (pv 0)) da_nil)) (nomark _)) (dss_one (ds_set (de_ix (de_var 0 (pv 0)) (de_var 1 (pv 1)) (fun _ _ => rfl)) (fun h => ps_set (i := 2) nd rfl (Or.inl rfl) h))) dss_nil) (dss_cons (ds_set (de_op od_mod (de_op od_pow (de_op od_add (de_op od_add (de_op od_mod (de_var 2 (pv 2)) de_int) (de_op od_mul (de_op od_mul de_int (de_var 1 (pv 1))) (de_var 1 (pv 1)))) de_int) de_int) de_int) (fun h => ps_set (i := 3) nd rfl (Or.inl rfl) h)) (dss_cons (ds_if (dt_cmp od_lt (de_var 2 (pv 2)) (de_op od_pow de_int de_int) (nomark _)) (dss_one (ds_set de_int (fun h => ps_set (i := 2) nd rfl (Or.inl rfl) h))) dss_nil) (dss_one (ds_ret (de_newL (da_cons (de_var 2 (pv 2)) (da_cons (de_var 3 (pv 3)) da_nil)))))))))

theorem ok_ulaw_draw (T : Txt A K mg) : FnOk P w K mg base (L2.CX P w) 1 T.f_ulaw_draw T.fd_ulaw_draw ["_law_pool_here", "_law_many"] (spD K (g_ulaw_draw A)) := by

  refine def_ok (k := 0) T.F_ulaw_draw sc_ulaw_draw (fun cdv A' outer s0 H E hr => ?_)
  have px : Passes (L2.CX P w) (cxOf (L2.CX P w) P w K mg base ["_law_pool_here", "_law_many", "_law_digit"] "_law_draw" (defScope s_ulaw_draw) T.f_ulaw_draw cdv A' outer s0 H E) E := passes_call (takes_of rfl rfl rfl rfl) (fun _ _ _ _ h => h)
  have nd := sc_ulaw_draw.nd
  have hu65 := units65 hr
  exact (dss_cons (ds_if (dt_cmp od_gt (de_ix (de_var 0 (pv 0)) de_int (fun _ _ => rfl)) de_int (nomark _)) (dss_cons (ds_set (de_op od_mod (de_ix (de_var 0 (pv 0)) de_int (fun _ _ => rfl)) (de_var 1 (pv 1))) (fun h => ps_set (i := 2) nd rfl (Or.inl rfl) h)) (dss_cons (ds_asg (de_op od_div (de_ix (de_var 0 (pv 0)) de_int (fun _ _ => rfl)) (de_var 1 (pv 1))) (dg_sub (de_var 0 (pv 0)) de_int)) (dss_one (ds_ret (de_var 2 (pv 2)))))) dss_nil) (dss_cons (ds_asg (de_op od_mod (de_op od_add (de_op od_mul (de_ix (de_var 0 (pv 0)) de_int (fun _ _ => rfl)) de_int) de_int) de_int) (dg_sub (de_var 0 (pv 0)) de_int)) (dss_one (ds_ret (de_op od_mod (de_op od_div (de_op od_mod (de_op od_mul (de_ix (de_var 0 (pv 0)) de_int (fun _ _ => rfl)) (de_ix (de_var 0 (pv 0)) de_int (fun _ _ => rfl))) de_int) de_int) (de_var 1 (pv 1)))))))

theorem ok_ulaw_rows (T : Txt A K mg) : FnOk P w K mg base (L2.CX P w) 2 T.f_ulaw_rows T.fd_ulaw_rows ["_law_pool_here", "_law_size"] (spD K (g_ulaw_rows A)) := by
  have G_ulaw_draw := ok_ulaw_draw (P := P) (w := w) (base := base) T
  refine def_ok (k := 1) T.F_ulaw_rows sc_ulaw_rows (fun cdv A' outer s0 H E hr => ?_)
  have px : Passes (L2.CX P w) (cxOf (L2.CX P w) P w K mg base ["_law_pool_here", "_law_size", "_law_rows_here", "_law_a", "_law_b", "_law_colour"] "_law_rows" (defScope s_ulaw_rows) T.f_ulaw_rows cdv A' outer s0 H E) E := passes_call (takes_of rfl rfl rfl rfl) (fun _ _ _ _ h => h)
  have nd := sc_ulaw_rows.nd
  have hu65 := units65 hr
  exact (dss_cons (ds_setLc (ps_setLc (i := 2) (own := [("_law_a", 3)]) rfl nd rfl rfl (sw_true rfl rfl rfl (by decide +kernel)) (di_range1 rfl T.n_range (da_cons (de_var 1 (pv 1)) da_nil)) (blkOk_by (by rfl)) (fun _ _ _ _ _ => pg_name (i := 3) nd rfl (Or.inl rfl)) (fun _ _ _ _ _ => dts_nil) (fun _ _ _ _ _ => (de_op od_mulN (de_lst (da_cons de_int da_nil)) (de_var 1 (pv 1))))) (fun _ _ _ h => tD_eLcN (cg_name (i := 3) (by decide)) h)) (dss_cons (ds_for (passes_of rfl) rfl (di_range1 rfl T.n_range (da_cons (de_var 1 (pv 1)) da_nil)) (dg_name (pg_name (i := 3) nd rfl (Or.inl rfl))) (dss_scope (drop := [4, 5]) (dss_one (ds_for (passes_of rfl) rfl (di_range2 rfl T.n_range (da_cons (de_var 3 (pv 3)) (da_cons (de_var 1 (pv 1)) da_nil))) (dg_name (pg_name (i := 4) nd rfl (Or.inl rfl))) (dss_scope (drop := [4, 5]) (dss_cons (ds_set (de_call G_ulaw_draw (hr.mono (by decide)) T.m_ulaw_draw T.F_ulaw_draw.kp T.b_ulaw_draw px (da_cons (de_var 0 (pv 0)) (da_cons (de_var 1 (pv 1)) da_nil))) (fun h => ps_set (i := 5) nd rfl (Or.inl rfl) h)) (dss_cons (ds_asg (de_var 5 (pv 5)) (dg_sub (de_ix (de_var 2 (pv 2)) (de_var 3 (pv 3)) (fun _ _ => rfl)) (de_var 4 (pv 4)))) (dss_one (ds_asg (de_var 5 (pv 5)) (dg_sub (de_ix (de_var 2 (pv 2)) (de_var 4 (pv 4)) (fun _ _ => rfl)) (de_var 3 (pv 3)))))))))))) (dss_one (ds_ret (de_var 2 (pv 2))))))

theorem ok_ulaw_kind (T : Txt A K mg) : FnOk P w K mg base (L2.CX P w) 3 T.f_ulaw_kind T.fd_ulaw_kind ["_law_pool_here", "_law_size"] (spD K (g_ulaw_kind A)) := by
  have G_ulaw_draw := ok_ulaw_draw (P := P) (w := w) (base := base) T
  have G_ulaw_rows := ok_ulaw_rows (P := P) (w := w) (base := base) T
  refine def_ok (k := 2) T.F_ulaw_kind sc_ulaw_kind (fun cdv A' outer s0 H E hr => ?_)
  have px : Passes (L2.CX P w) (cxOf (L2.CX P w) P w K mg base ["_law_pool_here", "_law_size", "_law_way", "_law_a", "_law_b"] "_law_kind" (defScope s_ulaw_kind) T.f_ulaw_kind cdv A' outer s0 H E) E := passes_call (takes_of rfl rfl rfl rfl) (fun _ _ _ _ h => h)
  have nd := sc_ulaw_kind.nd
  have hu65 := units65 hr
  exact (dss_cons (ds_set (de_call G_ulaw_draw (hr.mono (by decide)) T.m_ulaw_draw T.F_ulaw_draw.kp T.b_ulaw_draw px (da_cons (de_var 0 (pv 0)) (da_cons de_int da_nil))) (fun h => ps_set (i := 2) nd rfl (Or.inl rfl) h)) (dss_cons (ds_if (dt_cmp (od_eq hr.units) (de_var 2 (pv 2)) de_int (nomark _)) (dss_one (ds_ret (de_lc (own := [("_law_a", 3)]) rfl nd (di_range1 rfl T.n_range (da_cons (de_var 1 (pv 1)) da_nil)) (blkOk_by (by rfl)) (cg_name (i := 3) (by decide)) (fun _ _ _ _ _ => pg_name (i := 3) nd rfl (Or.inr rfl)) (fun _ _ _ _ _ => dts_nil) (fun _ _ _ _ _ => (de_lc (own := [("_law_b", 4)]) rfl nd (di_range1 rfl T.n_range (da_cons (de_var 1 (pv 1)) da_nil)) (blkOk_by (by rfl)) (cg_name (i := 4) (by decide)) (fun _ _ _ _ _ => pg_name (i := 4) nd rfl (Or.inl rfl)) (fun _ _ _ _ _ => dts_nil) (fun _ _ _ _ _ => (de_op od_mod (de_op od_add (de_var 3 (pv 3)) (de_var 4 (pv 4))) (de_var 1 (pv 1))))))))) dss_nil) (dss_cons (ds_if (dt_cmp (od_eq hr.units) (de_var 2 (pv 2)) de_int (nomark _)) (dss_one (ds_ret (de_lc (own := [("_law_a", 3)]) rfl nd (di_range1 rfl T.n_range (da_cons (de_var 1 (pv 1)) da_nil)) (blkOk_by (by rfl)) (cg_name (i := 3) (by decide)) (fun _ _ _ _ _ => pg_name (i := 3) nd rfl (Or.inr rfl)) (fun _ _ _ _ _ => dts_nil) (fun _ _ _ _ _ => (de_lc (own := [("_law_b", 4)]) rfl nd (di_range1 rfl T.n_range (da_cons (de_var 1 (pv 1)) da_nil)) (blkOk_by (by rfl)) (cg_name (i := 4) (by decide)) (fun _ _ _ _ _ => pg_name (i := 4) nd rfl (Or.inl rfl)) (fun _ _ _ _ _ => dts_nil) (fun _ _ _ _ _ => (de_cb (cd_max2 rfl) T.n_max (da_cons (de_var 3 (pv 3)) (da_cons (de_var 4 (pv 4)) da_nil))))))))) dss_nil) (dss_cons (ds_if (dt_cmp (od_eq hr.units) (de_var 2 (pv 2)) de_int (nomark _)) (dss_one (ds_ret (de_lc (own := [("_law_a", 3)]) rfl nd (di_range1 rfl T.n_range (da_cons (de_var 1 (pv 1)) da_nil)) (blkOk_by (by rfl)) (cg_name (i := 3) (by decide)) (fun _ _ _ _ _ => pg_name (i := 3) nd rfl (Or.inr rfl)) (fun _ _ _ _ _ => dts_nil) (fun _ _ _ _ _ => (de_lc (own := [("_law_b", 4)]) rfl nd (di_range1 rfl T.n_range (da_cons (de_var 1 (pv 1)) da_nil)) (blkOk_by (by rfl)) (cg_name (i := 4) (by decide)) (fun _ _ _ _ _ => pg_name (i := 4) nd rfl (Or.inl rfl)) (fun _ _ _ _ _ => dts_nil) (fun _ _ _ _ _ => (de_cb (cd_min2 rfl) T.n_min (da_cons (de_op od_add (de_var 3 (pv 3)) (de_var 4 (pv 4))) (da_cons (de_op od_sub (de_var 1 (pv 1)) de_int) da_nil))))))))) dss_nil) (dss_cons (ds_if (dt_cmp (od_eq hr.units) (de_var 2 (pv 2)) de_int (nomark _)) (dss_one (ds_ret (de_lc (own := [("_law_a", 3)]) rfl nd (di_range1 rfl T.n_range (da_cons (de_var 1 (pv 1)) da_nil)) (blkOk_by (by rfl)) (cg_name (i := 3) (by decide)) (fun _ _ _ _ _ => pg_name (i := 3) nd rfl (Or.inr rfl)) (fun _ _ _ _ _ => dts_nil) (fun _ _ _ _ _ => (de_lc (own := [("_law_b", 4)]) rfl nd (di_range1 rfl T.n_range (da_cons (de_var 1 (pv 1)) da_nil)) (blkOk_by (by rfl)) (cg_name (i := 4) (by decide)) (fun _ _ _ _ _ => pg_name (i := 4) nd rfl (Or.inl rfl)) (fun _ _ _ _ _ => dts_nil) (fun _ _ _ _ _ => (de_op od_mod (de_op od_mul (de_var 3 (pv 3)) (de_var 4 (pv 4))) (de_var 1 (pv 1))))))))) dss_nil) (dss_one (ds_ret (de_call G_ulaw_rows (hr.mono (by decide)) T.m_ulaw_rows T.F_ulaw_rows.kp T.b_ulaw_rows px (da_cons (de_var 0 (pv 0)) (da_cons (de_var 1 (pv 1)) da_nil))))))))))

theorem ok_Table_size (T : Txt A K mg) : FnOk P w K mg base (L2.CX P w) 1 T.f_Table_size T.fd_Table_size ["self"] (spD K (g_Table_size A)) := by

  refine def_ok (k := 0) T.F_Table_size sc_Table_size (fun cdv A' outer s0 H E hr => ?_)
  have px : Passes (L2.CX P w) (cxOf (L2.CX P w) P w K mg base ["self"] "Table.size" (defScope s_Table_size) T.f_Table_size cdv A' outer s0 H E) E := passes_call (takes_of rfl rfl rfl rfl) (fun _ _ _ _ h => h)
  have nd := sc_Table_size.nd
  have hu65 := units65 hr
  exact (dss_one (ds_ret (de_cb cd_len T.n_len (da_cons (de_fld (de_var 0 (pv 0)) T.i_Table.cl T.a_Table_grid) da_nil))))

theorem ok_is_integer (T : Txt A K mg) : FnOk P w K mg base (L2.CX P w) 1 T.f_is_integer T.fd_is_integer ["value"] (spD K (g_is_integer A)) := by

  refine def_ok (k := 0) T.F_is_integer sc_is_integer (fun cdv A' outer s0 H E hr => ?_)
  have px : Passes (L2.CX P w) (cxOf (L2.CX P w) P w K mg base ["value"] "is_integer" (defScope s_is_integer) T.f_is_integer cdv A' outer s0 H E) E := passes_call (takes_of rfl rfl rfl rfl) (fun _ _ _ _ h => h)
  have nd := sc_is_integer.nd
  have hu65 := units65 hr
  exact (dss_one (ds_ret (de_and (de_isi T.n_isinstance (de_var 0 (pv 0)) (pe_bltn (v := .ty "int") (u := .type "int") (by rfl) T.n_int (by decide +kernel) rfl) (.ty _) (anB_ok T.q_int)) (de_one (de_not (de_isi T.n_isinstance (de_var 0 (pv 0)) (pe_bltn (v := .ty "bool") (u := .type "bool") (by rfl) T.n_bool (by decide +kernel) rfl) (.ty _) (anB_ok T.q_bool)))))))

theorem ok_is_colour (T : Txt A K mg) : FnOk P w K mg base (L2.CX P w) 2 T.f_is_colour T.fd_is_colour ["value", "size"] (spD K (g_is_colour A)) := by
  have G_is_integer := ok_is_integer (P := P) (w := w) (base := base) T
  refine def_ok (k := 1) T.F_is_colour sc_is_colour (fun cdv A' outer s0 H E hr => ?_)
  have px : Passes (L2.CX P w) (cxOf (L2.CX P w) P w K mg base ["value", "size"] "is_colour" (defScope s_is_colour) T.f_is_colour cdv A' outer s0 H E) E := passes_call (takes_of rfl rfl rfl rfl) (fun _ _ _ _ h => h)
  have nd := sc_is_colour.nd
  have hu65 := units65 hr
  exact (dss_one (ds_ret (de_and (de_call G_is_integer (hr.mono (by decide)) T.m_is_integer T.F_is_integer.kp T.b_is_integer px (da_cons (de_var 0 (pv 0)) da_nil)) (de_one (de_ch od_le od_lt de_int (de_var 0 (pv 0)) (de_var 1 (pv 1)))))))

theorem ok_need_colours (T : Txt A K mg) : FnOk P w K mg base (L2.CX P w) 3 T.f_need_colours T.fd_need_colours ["values", "size"] (spD K (g_need_colours A)) := by
  have G_is_colour := ok_is_colour (P := P) (w := w) (base := base) T
  refine def_ok (k := 2) T.F_need_colours sc_need_colours (fun cdv A' outer s0 H E hr => ?_)
  have px : Passes (L2.CX P w) (cxOf (L2.CX P w) P w K mg base ["values", "size", "value"] "need_colours" (defScope s_need_colours) T.f_need_colours cdv A' outer s0 H E) E := passes_call (takes_of rfl rfl rfl rfl) (fun _ _ _ _ h => h)
  have nd := sc_need_colours.nd
  have hu65 := units65 hr
  exact (dss_one (ds_for (passes_of rfl) rfl (di_seq (de_var 0 (pv 0))) (dg_name (pg_name (i := 2) nd rfl (Or.inl rfl))) (dss_scope (drop := [2]) (dss_one (ds_if (dt_not (dt_tru (de_call G_is_colour (hr.mono (by decide)) T.m_is_colour T.F_is_colour.kp T.b_is_colour px (da_cons (de_var 2 (pv 2)) (da_cons (de_var 1 (pv 1)) da_nil))))) (dss_one ds_no) dss_nil)))))

theorem ok_is_pair (T : Txt A K mg) : FnOk P w K mg base (L2.CX P w) 1 T.f_is_pair T.fd_is_pair ["value"] (spD K (g_is_pair A)) := by

  refine def_ok (k := 0) T.F_is_pair sc_is_pair (fun cdv A' outer s0 H E hr => ?_)
  have px : Passes (L2.CX P w) (cxOf (L2.CX P w) P w K mg base ["value"] "is_pair" (defScope s_is_pair) T.f_is_pair cdv A' outer s0 H E) E := passes_call (takes_of rfl rfl rfl rfl) (fun _ _ _ _ h => h)
  have nd := sc_is_pair.nd
  have hu65 := units65 hr
  exact (dss_one (ds_ret (de_and (de_isi T.n_isinstance (de_var 0 (pv 0)) (pe_bltn (v := .ty "tuple") (u := .type "tuple") (by rfl) T.n_tuple (by decide +kernel) rfl) (.ty _) (anB_ok T.q_tuple)) (de_one (de_cmp (od_eq hr.units) (de_cb cd_len T.n_len (da_cons (de_var 0 (pv 0)) da_nil)) de_int (nomark _))))))

theorem ok_Table_uugetitemuu (T : Txt A K mg) : FnOk P w K mg base (L2.CX P w) 4 T.f_Table_uugetitemuu T.fd_Table_uugetitemuu ["self", "at"] (spD K (g_Table_uugetitemuu A)) := by
  have G_is_pair := ok_is_pair (P := P) (w := w) (base := base) T
  have G_need_colours := ok_need_colours (P := P) (w := w) (base := base) T
  refine def_ok (k := 3) T.F_Table_uugetitemuu sc_Table_uugetitemuu (fun cdv A' outer s0 H E hr => ?_)
  have px : Passes (L2.CX P w) (cxOf (L2.CX P w) P w K mg base ["self", "at"] "Table.__getitem__" (defScope s_Table_uugetitemuu) T.f_Table_uugetitemuu cdv A' outer s0 H E) E := passes_call (takes_of rfl rfl rfl rfl) (fun _ _ _ _ h => h)
  have nd := sc_Table_uugetitemuu.nd
  have hu65 := units65 hr
  exact (dss_cons (ds_if (dt_not (dt_tru (de_call G_is_pair (hr.mono (by decide)) T.m_is_pair T.F_is_pair.kp T.b_is_pair px (da_cons (de_var 1 (pv 1)) da_nil)))) (dss_one ds_no) dss_nil) (dss_cons (ds_expr (de_call G_need_colours (hr.mono (by decide)) T.m_need_colours T.F_need_colours.kp T.b_need_colours px (da_cons (de_var 1 (pv 1)) (da_cons (de_cb cd_len T.n_len (da_cons (de_fld (de_var 0 (pv 0)) T.i_Table.cl T.a_Table_grid) da_nil)) da_nil)))) (dss_one (ds_ret (de_ix (de_ix (de_fld (de_var 0 (pv 0)) T.i_Table.cl T.a_Table_grid) (de_ix (de_var 1 (pv 1)) de_int (fun _ _ => rfl)) (fun _ _ => rfl)) (de_ix (de_var 1 (pv 1)) de_int (fun _ _ => rfl)) (fun _ _ => rfl))))))

theorem ok_is_disputed (T : Txt A K mg) : FnOk P w K mg base (L2.CX P w) 6 T.f_is_disputed T.fd_is_disputed ["table", "a", "b", "c"] (spD K (g_is_disputed A)) := by
  have G_Table_uugetitemuu := ok_Table_uugetitemuu (P := P) (w := w) (base := base) T
  refine def_ok (k := 5) T.F_is_disputed sc_is_disputed (fun cdv A' outer s0 H E hr => ?_)
  have px : Passes (L2.CX P w) (cxOf (L2.CX P w) P w K mg base ["table", "a", "b", "c"] "is_disputed" (defScope s_is_disputed) T.f_is_disputed cdv A' outer s0 H E) E := passes_call (takes_of rfl rfl rfl rfl) (fun _ _ _ _ h => h)
  have nd := sc_is_disputed.nd
  have hu65 := units65 hr
  exact (dss_one (ds_ret (de_cmp (od_ne hr.units) (de_subO (de_var 0 (pv 0)) (de_tup (da_cons (de_subO (de_var 0 (pv 0)) (de_tup (da_cons (de_var 1 (pv 1)) (da_cons (de_var 2 (pv 2)) da_nil))) T.s_Table_getitem T.n_Table_getitem T.f_Table_getitem G_Table_uugetitemuu (hr.mono (by decide)) T.b_Table_uugetitemuu px) (da_cons (de_var 3 (pv 3)) da_nil))) T.s_Table_getitem T.n_Table_getitem T.f_Table_getitem G_Table_uugetitemuu (hr.mono (by decide)) T.b_Table_uugetitemuu px) (de_subO (de_var 0 (pv 0)) (de_tup (da_cons (de_var 1 (pv 1)) (da_cons (de_subO (de_var 0 (pv 0)) (de_tup (da_cons (de_var 2 (pv 2)) (da_cons (de_var 3 (pv 3)) da_nil))) T.s_Table_getitem T.n_Table_getitem T.f_Table_getitem G_Table_uugetitemuu (hr.mono (by decide)) T.b_Table_uugetitemuu px) da_nil))) T.s_Table_getitem T.n_Table_getitem T.f_Table_getitem G_Table_uugetitemuu (hr.mono (by decide)) T.b_Table_uugetitemuu px) (nomark _))))

theorem ok_first_dispute (T : Txt A K mg) : FnOk P w K mg base (L2.CX P w) 7 T.f_first_dispute T.fd_first_dispute ["table"] (spD K (g_first_dispute A)) := by
  have G_Table_size := ok_Table_size (P := P) (w := w) (base := base) T
  have G_is_disputed := ok_is_disputed (P := P) (w := w) (base := base) T
  refine def_ok (k := 6) T.F_first_dispute sc_first_dispute (fun cdv A' outer s0 H E hr => ?_)
  have px : Passes (L2.CX P w) (cxOf (L2.CX P w) P w K mg base ["table", "colours", "a", "b", "c"] "first_dispute" (defScope s_first_dispute) T.f_first_dispute cdv A' outer s0 H E) E := passes_call (takes_of rfl rfl rfl rfl) (fun _ _ _ _ h => h)
  have nd := sc_first_dispute.nd
  have hu65 := units65 hr
  exact (dss_cons (ds_set (de_listR1 T.n_list T.n_range (de_prop (de_var 0 (pv 0)) T.i_Table.cl T.p_Table_size G_Table_size (hr.mono (by decide)) T.b_Table_size)) (fun h => ps_set (i := 1) nd rfl (Or.inl rfl) h)) (dss_cons (ds_for (passes_of rfl) rfl (di_seq (de_var 1 (pv 1))) (dg_name (pg_name (i := 2) nd rfl (Or.inl rfl))) (dss_scope (drop := [2, 3, 4]) (dss_one (ds_for (passes_of rfl) rfl (di_seq (de_var 1 (pv 1))) (dg_name (pg_name (i := 3) nd rfl (Or.inl rfl))) (dss_scope (drop := [3, 4]) (dss_one (ds_for (passes_of rfl) rfl (di_seq (de_var 1 (pv 1))) (dg_name (pg_name (i := 4) nd rfl (Or.inl rfl))) (dss_scope (drop := [4]) (dss_one (ds_if (dt_tru (de_call G_is_disputed (hr.mono (by decide)) T.m_is_disputed T.F_is_disputed.kp T.b_is_disputed px (da_cons (de_var 0 (pv 0)) (da_cons (de_var 2 (pv 2)) (da_cons (de_var 3 (pv 3)) (da_cons (de_var 4 (pv 4)) da_nil)))))) (dss_one (ds_ret (de_tup (da_cons (de_var 2 (pv 2)) (da_cons (de_var 3 (pv 3)) (da_cons (de_var 4 (pv 4)) da_nil)))))) dss_nil)))))))))) (dss_one (ds_ret de_non))))

theorem ok_draw_of (T : Txt A K mg) : FnOk P w K mg base (L2.CX P w) 1 T.f_draw_of T.fd_draw_of ["a", "b"] (spD K (g_draw_of A)) := by

  refine def_ok (k := 0) T.F_draw_of sc_draw_of (fun cdv A' outer s0 H E hr => ?_)
  have px : Passes (L2.CX P w) (cxOf (L2.CX P w) P w K mg base ["a", "b"] "draw_of" (defScope s_draw_of) T.f_draw_of cdv A' outer s0 H E) E := passes_call (takes_of rfl rfl rfl rfl) (fun _ _ _ _ h => h)
  have nd := sc_draw_of.nd
  have hu65 := units65 hr
  exact (dss_one (ds_ret (de_tup (da_cons (de_cb (cd_min2 rfl) T.n_min (da_cons (de_var 0 (pv 0)) (da_cons (de_var 1 (pv 1)) da_nil))) (da_cons (de_cb (cd_max2 rfl) T.n_max (da_cons (de_var 0 (pv 0)) (da_cons (de_var 1 (pv 1)) da_nil))) da_nil)))))

theorem ok_is_sequence (T : Txt A K mg) : FnOk P w K mg base (L2.CX P w) 1 T.f_is_sequence T.fd_is_sequence ["value"] (spD K (g_is_sequence A)) := by

  refine def_ok (k := 0) T.F_is_sequence sc_is_sequence (fun cdv A' outer s0 H E hr => ?_)
  have px : Passes (L2.CX P w) (cxOf (L2.CX P w) P w K mg base ["value"] "is_sequence" (defScope s_is_sequence) T.f_is_sequence cdv A' outer s0 H E) E := passes_call (takes_of rfl rfl rfl rfl) (fun _ _ _ _ h => h)
  have nd := sc_is_sequence.nd
  have hu65 := units65 hr
  exact (dss_one (ds_ret (de_isiT (cs := [.ty "list", .ty "tuple"]) T.n_isinstance (de_var 0 (pv 0)) (pa_cons (pe_bltn (v := .ty "list") (u := .type "list") (by rfl) T.n_list (by decide +kernel) rfl) (pa_cons (pe_bltn (v := .ty "tuple") (u := .type "tuple") (by rfl) T.n_tuple (by decide +kernel) rfl) pa_nil)) (fun _ _ _ h => h) (.cons (.ty _) (.cons (.ty _) .nil)) (by show 2 ≤ sizeLine; decide) (anB2_ok (q2_ok T.q_list T.q_tuple)))))

theorem ok_is_count (T : Txt A K mg) : FnOk P w K mg base (L2.CX P w) 2 T.f_is_count T.fd_is_count ["value"] (spD K (g_is_count A)) := by
  have G_is_integer := ok_is_integer (P := P) (w := w) (base := base) T
  refine def_ok (k := 1) T.F_is_count sc_is_count (fun cdv A' outer s0 H E hr => ?_)
  have px : Passes (L2.CX P w) (cxOf (L2.CX P w) P w K mg base ["value"] "is_count" (defScope s_is_count) T.f_is_count cdv A' outer s0 H E) E := passes_call (takes_of rfl rfl rfl rfl) (fun _ _ _ _ h => h)
  have nd := sc_is_count.nd
  have hu65 := units65 hr
  exact (dss_one (ds_ret (de_and (de_call G_is_integer (hr.mono (by decide)) T.m_is_integer T.F_is_integer.kp T.b_is_integer px (da_cons (de_var 0 (pv 0)) da_nil)) (de_one (de_cmp od_ge (de_var 0 (pv 0)) de_int (nomark _))))))

theorem ok_Jar_uuinituu (T : Txt A K mg) : FnOk P w K mg base (L2.CX P w) 3 T.f_Jar_uuinituu T.fd_Jar_uuinituu ["self", "counts"] (spD K (g_Jar_uuinituu A)) := by
  have G_is_sequence := ok_is_sequence (P := P) (w := w) (base := base) T
  have G_is_count := ok_is_count (P := P) (w := w) (base := base) T
  refine def_ok (k := 2) T.F_Jar_uuinituu sc_Jar_uuinituu (fun cdv A' outer s0 H E hr => ?_)
  have px : Passes (L2.CX P w) (cxOf (L2.CX P w) P w K mg base ["self", "counts", "count"] "Jar.__init__" (defScope s_Jar_uuinituu) T.f_Jar_uuinituu cdv A' outer s0 H E) E := passes_call (takes_of rfl rfl rfl rfl) (fun _ _ _ _ h => h)
  have nd := sc_Jar_uuinituu.nd
  have hu65 := units65 hr
  exact (dss_cons (ds_if (PW.pt (dw_or (dt_not (dt_tru (de_call G_is_sequence (hr.mono (by decide)) T.m_is_sequence T.F_is_sequence.kp T.b_is_sequence px (da_cons (de_var 1 (pv 1)) da_nil)))) (dw_or1 (dt_not (dt_ch od_le od_le de_int (de_cb cd_len T.n_len (da_cons (de_var 1 (pv 1)) da_nil)) (de_c (pe_glob (v := .int 8) rfl T.c_MOST_COLOURS.choose_spec ⟨_, rfl⟩) (fun _ _ => to_int))))))) (dss_one ds_no) dss_nil) (dss_cons (ds_if (dt_not (dt_tru (de_cb (cd_all rfl) T.n_all (da_cons (de_lc (own := [("count", 2)]) rfl nd (di_seq (de_var 1 (pv 1))) (blkOk_by (by rfl)) (cg_name (i := 2) (by decide)) (fun _ _ _ _ _ => pg_name (i := 2) nd rfl (Or.inl rfl)) (fun _ _ _ _ _ => dts_nil) (fun _ _ _ _ _ => (de_call G_is_count (hr.mono (by decide)) T.m_is_count T.F_is_count.kp T.b_is_count passL (da_cons (de_var 2 (pv 2)) da_nil)))) da_nil)))) (dss_one ds_no) dss_nil) (dss_one (ds_fld (de_var 0 (pv 0)) (de_ct cd_tuple T.n_tuple (da_cons (de_var 1 (pv 1)) da_nil)) T.i_Jar.cl T.a_Jar_amounts))))

theorem ok_Jar_of_beans (T : Txt A K mg) : FnOk P w K mg base (L2.CX P w) 5 T.f_Jar_of_beans T.fd_Jar_of_beans ["cls", "size", "beans"] (spD K (g_Jar_of_beans A)) := by
  have G_is_integer := ok_is_integer (P := P) (w := w) (base := base) T
  have G_is_sequence := ok_is_sequence (P := P) (w := w) (base := base) T
  have G_need_colours := ok_need_colours (P := P) (w := w) (base := base) T
  have G_Jar_uuinituu := ok_Jar_uuinituu (P := P) (w := w) (base := base) T
  refine def_ok (k := 4) T.F_Jar_of_beans sc_Jar_of_beans (fun cdv A' outer s0 H E hr => ?_)
  have px : Passes (L2.CX P w) (cxOf (L2.CX P w) P w K mg base ["cls", "size", "beans", "counts", "bean"] "Jar.of_beans" (defScope s_Jar_of_beans) T.f_Jar_of_beans cdv A' outer s0 H E) E := passes_call (takes_of rfl rfl rfl rfl) (fun _ _ _ _ h => h)
  have nd := sc_Jar_of_beans.nd
  have hu65 := units65 hr
  exact (dss_cons (ds_if (PW.pt (dw_or (dt_not (dt_tru (de_call G_is_integer (hr.mono (by decide)) T.m_is_integer T.F_is_integer.kp T.b_is_integer px (da_cons (de_var 1 (pv 1)) da_nil)))) (dw_or1 (dt_not (dt_ch od_le od_le de_int (de_var 1 (pv 1)) (de_c (pe_glob (v := .int 8) rfl T.c_MOST_COLOURS.choose_spec ⟨_, rfl⟩) (fun _ _ => to_int))))))) (dss_one ds_no) dss_nil) (dss_cons (ds_if (dt_not (dt_tru (de_call G_is_sequence (hr.mono (by decide)) T.m_is_sequence T.F_is_sequence.kp T.b_is_sequence px (da_cons (de_var 2 (pv 2)) da_nil)))) (dss_one ds_no) dss_nil) (dss_cons (ds_expr (de_call G_need_colours (hr.mono (by decide)) T.m_need_colours T.F_need_colours.kp T.b_need_colours px (da_cons (de_var 2 (pv 2)) (da_cons (de_var 1 (pv 1)) da_nil)))) (dss_cons (ds_set (de_op od_mulN (de_lst (da_cons de_int da_nil)) (de_var 1 (pv 1))) (fun h => ps_set (i := 3) nd rfl (Or.inl rfl) h)) (dss_cons (ds_for (passes_of rfl) rfl (di_seq (de_var 2 (pv 2))) (dg_name (pg_name (i := 4) nd rfl (Or.inl rfl))) (dss_scope (drop := [4]) (dss_one (ds_augadd (de_var 3 (pv 3)) (de_var 4 (pv 4)) de_int)))) (dss_one (ds_ret (de_makeL (i := 0) T.mk_Jar G_Jar_uuinituu (hr.mono (by decide)) T.b_Jar_uuinituu px (da_cons (de_mv (de_var 3 (pv 3))) da_nil)))))))))

theorem ok_dispute (T : Txt A K mg) : FnOk P w K mg base (L2.CX P w) 8 T.f_dispute T.fd_dispute ["table"] (spD K (g_dispute A)) := by
  have G_first_dispute := ok_first_dispute (P := P) (w := w) (base := base) T
  have G_draw_of := ok_draw_of (P := P) (w := w) (base := base) T
  have G_Table_uugetitemuu := ok_Table_uugetitemuu (P := P) (w := w) (base := base) T
  have G_Jar_of_beans := ok_Jar_of_beans (P := P) (w := w) (base := base) T
  have G_Table_size := ok_Table_size (P := P) (w := w) (base := base) T
  refine def_ok (k := 7) T.F_dispute sc_dispute (fun cdv A' outer s0 H E hr => ?_)
  have px : Passes (L2.CX P w) (cxOf (L2.CX P w) P w K mg base ["table", "triple", "a", "b", "c", "one", "other"] "dispute" (defScope s_dispute) T.f_dispute cdv A' outer s0 H E) E := passes_call (takes_of rfl rfl rfl rfl) (fun _ _ _ _ h => h)
  have nd := sc_dispute.nd
  have hu65 := units65 hr
  exact (dss_cons (ds_set (de_call G_first_dispute (hr.mono (by decide)) T.m_first_dispute T.F_first_dispute.kp T.b_first_dispute px (da_cons (de_var 0 (pv 0)) da_nil)) (fun h => ps_set (i := 1) nd rfl (Or.inl rfl) h)) (dss_cons (ds_if (dt_cmp od_is (de_var 1 (pv 1)) de_non (nomark _)) (dss_one (ds_ret de_non)) dss_nil) (dss_cons (ds_asg (de_var 1 (pv 1)) (dg_tup rfl (dgs_cons (dg_name (pg_name (i := 2) nd rfl (Or.inl rfl))) (dgs_cons (dg_name (pg_name (i := 3) nd rfl (Or.inl rfl))) (dgs_cons (dg_name (pg_name (i := 4) nd rfl (Or.inl rfl))) dgs_nil))))) (dss_cons (ds_set (de_lst (da_cons (de_call G_draw_of (hr.mono (by decide)) T.m_draw_of T.F_draw_of.kp T.b_draw_of px (da_cons (de_var 2 (pv 2)) (da_cons (de_var 3 (pv 3)) da_nil))) (da_cons (de_call G_draw_of (hr.mono (by decide)) T.m_draw_of T.F_draw_of.kp T.b_draw_of px (da_cons (de_subO (de_var 0 (pv 0)) (de_tup (da_cons (de_var 2 (pv 2)) (da_cons (de_var 3 (pv 3)) da_nil))) T.s_Table_getitem T.n_Table_getitem T.f_Table_getitem G_Table_uugetitemuu (hr.mono (by decide)) T.b_Table_uugetitemuu px) (da_cons (de_var 4 (pv 4)) da_nil))) da_nil))) (fun h => ps_set (i := 5) nd rfl (Or.inl rfl) h)) (dss_cons (ds_set (de_lst (da_cons (de_call G_draw_of (hr.mono (by decide)) T.m_draw_of T.F_draw_of.kp T.b_draw_of px (da_cons (de_var 3 (pv 3)) (da_cons (de_var 4 (pv 4)) da_nil))) (da_cons (de_call G_draw_of (hr.mono (by decide)) T.m_draw_of T.F_draw_of.kp T.b_draw_of px (da_cons (de_var 2 (pv 2)) (da_cons (de_subO (de_var 0 (pv 0)) (de_tup (da_cons (de_var 3 (pv 3)) (da_cons (de_var 4 (pv 4)) da_nil))) T.s_Table_getitem T.n_Table_getitem T.f_Table_getitem G_Table_uugetitemuu (hr.mono (by decide)) T.b_Table_uugetitemuu px) da_nil))) da_nil))) (fun h => ps_set (i := 6) nd rfl (Or.inl rfl) h)) (dss_one (ds_ret (de_tup (da_cons (de_cm T.g_Jar rfl T.r_Jar T.h_Jar_of_beans G_Jar_of_beans (hr.mono (by decide)) T.b_Jar_of_beans px (da_cons (de_prop (de_var 0 (pv 0)) T.i_Table.cl T.p_Table_size G_Table_size (hr.mono (by decide)) T.b_Table_size) (da_cons (de_lst (da_cons (de_var 2 (pv 2)) (da_cons (de_var 3 (pv 3)) (da_cons (de_var 4 (pv 4)) da_nil)))) da_nil))) (da_cons (de_var 5 (pv 5)) (da_cons (de_var 6 (pv 6)) da_nil)))))))))))

theorem ok_passes (T : Txt A K mg) : FnOk P w K mg base (L2.CX P w) 8 T.f_passes T.fd_passes ["table"] (spD K (g_passes A)) := by
  have G_first_dispute := ok_first_dispute (P := P) (w := w) (base := base) T
  refine def_ok (k := 7) T.F_passes sc_passes (fun cdv A' outer s0 H E hr => ?_)
  have px : Passes (L2.CX P w) (cxOf (L2.CX P w) P w K mg base ["table"] "passes" (defScope s_passes) T.f_passes cdv A' outer s0 H E) E := passes_call (takes_of rfl rfl rfl rfl) (fun _ _ _ _ h => h)
  have nd := sc_passes.nd
  have hu65 := units65 hr
  exact (dss_one (ds_ret (de_cmp od_is (de_call G_first_dispute (hr.mono (by decide)) T.m_first_dispute T.F_first_dispute.kp T.b_first_dispute px (da_cons (de_var 0 (pv 0)) da_nil)) de_non (nomark _))))

theorem ok_first_wrong_place (T : Txt A K mg) : FnOk P w K mg base (L2.CX P w) 3 T.f_first_wrong_place T.fd_first_wrong_place ["rows", "is_entry"] (spD K (g_first_wrong_place A)) := by
  have G_is_colour := ok_is_colour (P := P) (w := w) (base := base) T
  refine def_ok (k := 2) T.F_first_wrong_place sc_first_wrong_place (fun cdv A' outer s0 H E hr => ?_)
  have px : Passes (L2.CX P w) (cxOf (L2.CX P w) P w K mg base ["rows", "is_entry", "a", "row", "b", "entry"] "first_wrong_place" (defScope s_first_wrong_place) T.f_first_wrong_place cdv A' outer s0 H E) E := passes_call (takes_of rfl rfl rfl rfl) (fun _ _ _ _ h => h)
  have nd := sc_first_wrong_place.nd
  have hu65 := units65 hr
  exact (dss_cons (ds_for (passes_of rfl) rfl (di_enumA rfl T.n_enumerate (da_cons (de_var 0 (pv 0)) da_nil)) (dg_tup rfl (dgs_cons (dg_name (pg_name (i := 2) nd rfl (Or.inl rfl))) (dgs_cons (dg_name (pg_name (i := 3) nd rfl (Or.inl rfl))) dgs_nil))) (dss_scope (drop := [2, 3, 4, 5]) (dss_one (ds_for (passes_of rfl) rfl (di_enumA rfl T.n_enumerate (da_cons (de_var 3 (pv 3)) da_nil)) (dg_tup rfl (dgs_cons (dg_name (pg_name (i := 4) nd rfl (Or.inl rfl))) (dgs_cons (dg_name (pg_name (i := 5) nd rfl (Or.inl rfl))) dgs_nil))) (dss_scope (drop := [4, 5]) (dss_one (ds_if (PW.pt (dw_or (dt_not (dt_tru (de_callL (i := 1) G_is_colour (hr.mono (by decide)) T.v_is_colour T.F_is_colour.kp T.b_is_colour px (da_cons (de_var 5 (pv 5)) (da_cons (de_cb cd_len T.n_len (da_cons (de_var 0 (pv 0)) da_nil)) da_nil))))) (dw_or1 (PW.pt (dw_and (dt_cmp od_lt (de_var 4 (pv 4)) (de_var 2 (pv 2)) (nomark _)) (dw_and1 (dt_cmp (od_ne hr.units) (de_var 5 (pv 5)) (de_ix (de_ix (de_var 0 (pv 0)) (de_var 4 (pv 4)) (fun _ _ => rfl)) (de_var 2 (pv 2)) (fun _ _ => rfl)) (nomark _)))))))) (dss_one (ds_ret (de_tup (da_cons (de_var 2 (pv 2)) (da_cons (de_var 4 (pv 4)) da_nil))))) dss_nil))))))) (dss_one (ds_ret de_non)))

theorem ok_is_square (T : Txt A K mg) : FnOk P w K mg base (L2.CX P w) 2 T.f_is_square T.fd_is_square ["rows"] (spD K (g_is_square A)) := by
  have G_is_sequence := ok_is_sequence (P := P) (w := w) (base := base) T
  refine def_ok (k := 1) T.F_is_square sc_is_square (fun cdv A' outer s0 H E hr => ?_)
  have px : Passes (L2.CX P w) (cxOf (L2.CX P w) P w K mg base ["rows", "row"] "is_square" (defScope s_is_square) T.f_is_square cdv A' outer s0 H E) E := passes_call (takes_of rfl rfl rfl rfl) (fun _ _ _ _ h => h)
  have nd := sc_is_square.nd
  have hu65 := units65 hr
  exact (dss_cons (ds_if (PW.pt (dw_or (dt_not (dt_tru (de_call G_is_sequence (hr.mono (by decide)) T.m_is_sequence T.F_is_sequence.kp T.b_is_sequence px (da_cons (de_var 0 (pv 0)) da_nil)))) (dw_or1 (dt_not (dt_ch od_le od_le de_int (de_cb cd_len T.n_len (da_cons (de_var 0 (pv 0)) da_nil)) (de_c (pe_glob (v := .int 8) rfl T.c_MOST_COLOURS.choose_spec ⟨_, rfl⟩) (fun _ _ => to_int))))))) (dss_one (ds_ret de_bl)) dss_nil) (dss_one (ds_ret (de_cb (cd_all rfl) T.n_all (da_cons (de_lc (own := [("row", 1)]) rfl nd (di_seq (de_var 0 (pv 0))) (blkOk_by (by rfl)) (cg_name (i := 1) (by decide)) (fun _ _ _ _ _ => pg_name (i := 1) nd rfl (Or.inl rfl)) (fun _ _ _ _ _ => dts_nil) (fun _ _ _ _ _ => (de_and (de_call G_is_sequence (hr.mono (by decide)) T.m_is_sequence T.F_is_sequence.kp T.b_is_sequence passL (da_cons (de_var 1 (pv 1)) da_nil)) (de_one (de_cmp (od_eq hr.units) (de_cb cd_len T.n_len (da_cons (de_var 1 (pv 1)) da_nil)) (de_cb cd_len T.n_len (da_cons (de_var 0 (pv 0)) da_nil)) (nomark _)))))) da_nil)))))

theorem ok_Table_uuinituu (T : Txt A K mg) : FnOk P w K mg base (L2.CX P w) 4 T.f_Table_uuinituu T.fd_Table_uuinituu ["self", "rows"] (spD K (g_Table_uuinituu A)) := by
  have G_is_square := ok_is_square (P := P) (w := w) (base := base) T
  have G_first_wrong_place := ok_first_wrong_place (P := P) (w := w) (base := base) T
  refine def_ok (k := 3) T.F_Table_uuinituu sc_Table_uuinituu (fun cdv A' outer s0 H E hr => ?_)
  have px : Passes (L2.CX P w) (cxOf (L2.CX P w) P w K mg base ["self", "rows", "place", "row"] "Table.__init__" (defScope s_Table_uuinituu) T.f_Table_uuinituu cdv A' outer s0 H E) E := passes_call (takes_of rfl rfl rfl rfl) (fun _ _ _ _ h => h)
  have nd := sc_Table_uuinituu.nd
  have hu65 := units65 hr
  exact (dss_cons (ds_if (dt_not (dt_tru (de_call G_is_square (hr.mono (by decide)) T.m_is_square T.F_is_square.kp T.b_is_square px (da_cons (de_var 1 (pv 1)) da_nil)))) (dss_one ds_no) dss_nil) (dss_cons (ds_set (de_call G_first_wrong_place (hr.mono (by decide)) T.m_first_wrong_place T.F_first_wrong_place.kp T.b_first_wrong_place px (da_cons (de_var 1 (pv 1)) (da_cons (de_fn T.m_is_colour T.v_is_colour) da_nil))) (fun h => ps_set (i := 2) nd rfl (Or.inl rfl) h)) (dss_cons (ds_if (dt_cmp od_nis (de_var 2 (pv 2)) de_non (nomark _)) (dss_one ds_no) dss_nil) (dss_one (ds_fld (de_var 0 (pv 0)) (de_ct cd_tuple T.n_tuple (da_cons (de_lc (own := [("row", 3)]) rfl nd (di_seq (de_var 1 (pv 1))) (blkOk_by (by rfl)) (cg_name (i := 3) (by decide)) (fun _ _ _ _ _ => pg_name (i := 3) nd rfl (Or.inl rfl)) (fun _ _ _ _ _ => dts_nil) (fun _ _ _ _ _ => (de_ct cd_tuple T.n_tuple (da_cons (de_var 3 (pv 3)) da_nil)))) da_nil)) T.i_Table.cl T.a_Table_grid)))))

theorem ok_ulaw_first (T : Txt A K mg) : FnOk P w K mg base (L2.CX P w) 1 T.f_ulaw_first T.fd_ulaw_first ["_law_rows_here", "_law_size"] (spD K (g_ulaw_first A)) := by

  refine def_ok (k := 0) T.F_ulaw_first sc_ulaw_first (fun cdv A' outer s0 H E hr => ?_)
  have px : Passes (L2.CX P w) (cxOf (L2.CX P w) P w K mg base ["_law_rows_here", "_law_size", "_law_a", "_law_b", "_law_c", "_law_one", "_law_other"] "_law_first" (defScope s_ulaw_first) T.f_ulaw_first cdv A' outer s0 H E) E := passes_call (takes_of rfl rfl rfl rfl) (fun _ _ _ _ h => h)
  have nd := sc_ulaw_first.nd
  have hu65 := units65 hr
  exact (dss_cons (ds_for (passes_of rfl) rfl (di_range1 rfl T.n_range (da_cons (de_var 1 (pv 1)) da_nil)) (dg_name (pg_name (i := 2) nd rfl (Or.inl rfl))) (dss_scope (drop := [2, 3, 4, 5, 6]) (dss_one (ds_for (passes_of rfl) rfl (di_range1 rfl T.n_range (da_cons (de_var 1 (pv 1)) da_nil)) (dg_name (pg_name (i := 3) nd rfl (Or.inl rfl))) (dss_scope (drop := [3, 4, 5, 6]) (dss_one (ds_for (passes_of rfl) rfl (di_range1 rfl T.n_range (da_cons (de_var 1 (pv 1)) da_nil)) (dg_name (pg_name (i := 4) nd rfl (Or.inl rfl))) (dss_scope (drop := [4, 5, 6]) (dss_cons (ds_par (i := 5) (j := 6) (da_cons (de_ix (de_ix (de_var 0 (pv 0)) (de_var 2 (pv 2)) (fun _ _ => rfl)) (de_var 3 (pv 3)) (fun _ _ => rfl)) (da_cons (de_ix (de_ix (de_var 0 (pv 0)) (de_var 3 (pv 3)) (fun _ _ => rfl)) (de_var 4 (pv 4)) (fun _ _ => rfl)) da_nil)) (fun h => ps_par rfl nd rfl rfl (by decide) rfl rfl h (by rfl))) (dss_one (ds_if (dt_cmp (od_ne hr.units) (de_ix (de_ix (de_var 0 (pv 0)) (de_var 5 (pv 5)) (fun _ _ => rfl)) (de_var 4 (pv 4)) (fun _ _ => rfl)) (de_ix (de_ix (de_var 0 (pv 0)) (de_var 2 (pv 2)) (fun _ _ => rfl)) (de_var 6 (pv 6)) (fun _ _ => rfl)) (nomark _)) (dss_one (ds_ret (de_tup (da_cons (de_var 2 (pv 2)) (da_cons (de_var 3 (pv 3)) (da_cons (de_var 4 (pv 4)) da_nil)))))) dss_nil))))))))))) (dss_one (ds_ret de_non)))

theorem ok_Jar_size (T : Txt A K mg) : FnOk P w K mg base (L2.CX P w) 1 T.f_Jar_size T.fd_Jar_size ["self"] (spD K (g_Jar_size A)) := by

  refine def_ok (k := 0) T.F_Jar_size sc_Jar_size (fun cdv A' outer s0 H E hr => ?_)
  have px : Passes (L2.CX P w) (cxOf (L2.CX P w) P w K mg base ["self"] "Jar.size" (defScope s_Jar_size) T.f_Jar_size cdv A' outer s0 H E) E := passes_call (takes_of rfl rfl rfl rfl) (fun _ _ _ _ h => h)
  have nd := sc_Jar_size.nd
  have hu65 := units65 hr
  exact (dss_one (ds_ret (de_cb cd_len T.n_len (da_cons (de_fld (de_var 0 (pv 0)) T.i_Jar.cl T.a_Jar_amounts) da_nil))))

theorem ok_need_same_size (T : Txt A K mg) : FnOk P w K mg base (L2.CX P w) 3 T.f_need_same_size T.fd_need_same_size ["one", "other"] (spD K (g_need_same_size A)) := by
  have G_Jar_size := ok_Jar_size (P := P) (w := w) (base := base) T
  have G_Table_size := ok_Table_size (P := P) (w := w) (base := base) T
  refine def_ok (k := 2) T.F_need_same_size sc_need_same_size (fun cdv A' outer s0 H E hr => ?_)
  have px : Passes (L2.CX P w) (cxOf (L2.CX P w) P w K mg base ["one", "other"] "need_same_size" (defScope s_need_same_size) T.f_need_same_size cdv A' outer s0 H E) E := passes_call (takes_of rfl rfl rfl rfl) (fun _ _ _ _ h => h)
  have nd := sc_need_same_size.nd
  have hu65 := units65 hr
  exact (dss_one (ds_if (dt_cmp (od_ne hr.units) (de_propOr (de_prop (de_var 0 (pv 0)) T.i_Jar.cl T.p_Jar_size G_Jar_size (hr.mono (by decide)) T.b_Jar_size) (de_prop (de_var 0 (pv 0)) T.i_Table.cl T.p_Table_size G_Table_size (hr.mono (by decide)) T.b_Table_size)) (de_prop (de_var 1 (pv 1)) T.i_Jar.cl T.p_Jar_size G_Jar_size (hr.mono (by decide)) T.b_Jar_size) (nomark _)) (dss_one ds_no) dss_nil))

theorem ok_Jar_uubooluu (T : Txt A K mg) : FnOk P w K mg base (L2.CX P w) 1 T.f_Jar_uubooluu T.fd_Jar_uubooluu ["self"] (spD K (g_Jar_uubooluu A)) := by

  refine def_ok (k := 0) T.F_Jar_uubooluu sc_Jar_uubooluu (fun cdv A' outer s0 H E hr => ?_)
  have px : Passes (L2.CX P w) (cxOf (L2.CX P w) P w K mg base ["self"] "Jar.__bool__" (defScope s_Jar_uubooluu) T.f_Jar_uubooluu cdv A' outer s0 H E) E := passes_call (takes_of rfl rfl rfl rfl) (fun _ _ _ _ h => h)
  have nd := sc_Jar_uubooluu.nd
  have hu65 := units65 hr
  exact (dss_one (ds_ret (de_cb (cd_anyA rfl) T.n_any (da_cons (de_fld (de_var 0 (pv 0)) T.i_Jar.cl T.a_Jar_amounts) da_nil))))

theorem ok_need_beans (T : Txt A K mg) : FnOk P w K mg base (L2.CX P w) 4 T.f_need_beans T.fd_need_beans ["table", "jar"] (spD K (g_need_beans A)) := by
  have G_need_same_size := ok_need_same_size (P := P) (w := w) (base := base) T
  have G_Jar_uubooluu := ok_Jar_uubooluu (P := P) (w := w) (base := base) T
  refine def_ok (k := 3) T.F_need_beans sc_need_beans (fun cdv A' outer s0 H E hr => ?_)
  have px : Passes (L2.CX P w) (cxOf (L2.CX P w) P w K mg base ["table", "jar"] "need_beans" (defScope s_need_beans) T.f_need_beans cdv A' outer s0 H E) E := passes_call (takes_of rfl rfl rfl rfl) (fun _ _ _ _ h => h)
  have nd := sc_need_beans.nd
  have hu65 := units65 hr
  exact (dss_cons (ds_expr (de_call G_need_same_size (hr.mono (by decide)) T.m_need_same_size T.F_need_same_size.kp T.b_need_same_size px (da_cons (de_var 0 (pv 0)) (da_cons (de_var 1 (pv 1)) da_nil)))) (dss_one (ds_if (dt_not (dt_truO (de_var 1 (pv 1)) T.s_Jar_bool T.f_Jar_bool G_Jar_uubooluu (hr.mono (by decide)) T.b_Jar_uubooluu px)) (dss_one ds_no) dss_nil)))

theorem ok_Jar_uucontainsuu (T : Txt A K mg) : FnOk P w K mg base (L2.CX P w) 3 T.f_Jar_uucontainsuu T.fd_Jar_uucontainsuu ["self", "x"] (spD K (g_Jar_uucontainsuu A)) := by
  have G_is_colour := ok_is_colour (P := P) (w := w) (base := base) T
  refine def_ok (k := 2) T.F_Jar_uucontainsuu sc_Jar_uucontainsuu (fun cdv A' outer s0 H E hr => ?_)
  have px : Passes (L2.CX P w) (cxOf (L2.CX P w) P w K mg base ["self", "x"] "Jar.__contains__" (defScope s_Jar_uucontainsuu) T.f_Jar_uucontainsuu cdv A' outer s0 H E) E := passes_call (takes_of rfl rfl rfl rfl) (fun _ _ _ _ h => h)
  have nd := sc_Jar_uucontainsuu.nd
  have hu65 := units65 hr
  exact (dss_one (ds_ret (de_and (de_call G_is_colour (hr.mono (by decide)) T.m_is_colour T.F_is_colour.kp T.b_is_colour px (da_cons (de_var 1 (pv 1)) (da_cons (de_cb cd_len T.n_len (da_cons (de_fld (de_var 0 (pv 0)) T.i_Jar.cl T.a_Jar_amounts) da_nil)) da_nil))) (de_one (de_cmp od_gt (de_ix (de_fld (de_var 0 (pv 0)) T.i_Jar.cl T.a_Jar_amounts) (de_var 1 (pv 1)) (fun _ _ => rfl)) de_int (nomark _))))))

theorem ok_Jar_can_draw (T : Txt A K mg) : FnOk P w K mg base (L2.CX P w) 4 T.f_Jar_can_draw T.fd_Jar_can_draw ["self", "value"] (spD K (g_Jar_can_draw A)) := by
  have G_is_pair := ok_is_pair (P := P) (w := w) (base := base) T
  have G_Jar_uucontainsuu := ok_Jar_uucontainsuu (P := P) (w := w) (base := base) T
  refine def_ok (k := 3) T.F_Jar_can_draw sc_Jar_can_draw (fun cdv A' outer s0 H E hr => ?_)
  have px : Passes (L2.CX P w) (cxOf (L2.CX P w) P w K mg base ["self", "value", "a", "b", "colour"] "Jar.can_draw" (defScope s_Jar_can_draw) T.f_Jar_can_draw cdv A' outer s0 H E) E := passes_call (takes_of rfl rfl rfl rfl) (fun _ _ _ _ h => h)
  have nd := sc_Jar_can_draw.nd
  have hu65 := units65 hr
  exact (dss_cons (ds_if (PW.pt (dw_or (dt_not (dt_tru (de_call G_is_pair (hr.mono (by decide)) T.m_is_pair T.F_is_pair.kp T.b_is_pair px (da_cons (de_var 1 (pv 1)) da_nil)))) (dw_or1 (dt_not (dt_tru (de_cb (cd_all rfl) T.n_all (da_cons (de_lc (own := [("colour", 4)]) rfl nd (di_seq (de_var 1 (pv 1))) (blkOk_by (by rfl)) (cg_name (i := 4) (by decide)) (fun _ _ _ _ _ => pg_name (i := 4) nd rfl (Or.inl rfl)) (fun _ _ _ _ _ => dts_nil) (fun _ _ _ _ _ => (de_cmp (od_inO T.s_Jar_contains T.f_Jar_contains G_Jar_uucontainsuu (hr.mono (by decide)) T.b_Jar_uucontainsuu passL) (de_var 4 (pv 4)) (de_var 0 (pv 0)) (by rfl)))) da_nil))))))) (dss_one (ds_ret de_bl)) dss_nil) (dss_cons (ds_asg (de_var 1 (pv 1)) (dg_tup rfl (dgs_cons (dg_name (pg_name (i := 2) nd rfl (Or.inl rfl))) (dgs_cons (dg_name (pg_name (i := 3) nd rfl (Or.inl rfl))) dgs_nil)))) (dss_one (ds_ret (de_or (de_cmp od_lt (de_var 2 (pv 2)) (de_var 3 (pv 3)) (nomark _)) (de_one (de_and (de_cmp (od_eq hr.units) (de_var 2 (pv 2)) (de_var 3 (pv 3)) (nomark _)) (de_one (de_cmp od_gt (de_ix (de_fld (de_var 0 (pv 0)) T.i_Jar.cl T.a_Jar_amounts) (de_var 2 (pv 2)) (fun _ _ => rfl)) de_int (nomark _))))))))))

theorem ok_Jar_counts (T : Txt A K mg) : FnOk P w K mg base (L2.CX P w) 1 T.f_Jar_counts T.fd_Jar_counts ["self"] (spD K (g_Jar_counts A)) := by

  refine def_ok (k := 0) T.F_Jar_counts sc_Jar_counts (fun cdv A' outer s0 H E hr => ?_)
  have px : Passes (L2.CX P w) (cxOf (L2.CX P w) P w K mg base ["self"] "Jar.counts" (defScope s_Jar_counts) T.f_Jar_counts cdv A' outer s0 H E) E := passes_call (takes_of rfl rfl rfl rfl) (fun _ _ _ _ h => h)
  have nd := sc_Jar_counts.nd
  have hu65 := units65 hr
  exact (dss_one (ds_ret (de_ct cd_list T.n_list (da_cons (de_fld (de_var 0 (pv 0)) T.i_Jar.cl T.a_Jar_amounts) da_nil))))

theorem ok_Jar_countsN1 (T : Txt A K mg) : FnOk P w K mg base (L2.CX P w) 1 T.f_Jar_counts T.fd_Jar_counts ["self"] (spD K (g_Jar_countsN1 A)) := by

  refine def_okN (k := 0) T.F_Jar_counts sc_Jar_counts (fun cdv A' outer s0 H E hr => ?_)
  have px : Passes (L2.CX P w) (cxOf (L2.CX P w) P w K mg base ["self"] "Jar.counts" (defScope s_Jar_counts) T.f_Jar_counts cdv A' outer s0 H E) E := passes_call (takes_of rfl rfl rfl rfl) (fun _ _ _ _ h => h)
  have nd := sc_Jar_counts.nd
  have hu65 := units65 hr
  exact (dss_one (ds_ret (de_ct cd_listN T.n_list (da_cons (de_fld (de_var 0 (pv 0)) T.i_Jar.cl T.a_Jar_amounts) da_nil))))

theorem ok_after (T : Txt A K mg) : FnOk P w K mg base (L2.CX P w) 6 T.f_after T.fd_after ["table", "jar", "draw"] (spD K (g_after A)) := by
  have G_need_same_size := ok_need_same_size (P := P) (w := w) (base := base) T
  have G_Jar_can_draw := ok_Jar_can_draw (P := P) (w := w) (base := base) T
  have G_Jar_countsN1 := ok_Jar_countsN1 (P := P) (w := w) (base := base) T
  have G_Table_uugetitemuu := ok_Table_uugetitemuu (P := P) (w := w) (base := base) T
  have G_Jar_uuinituu := ok_Jar_uuinituu (P := P) (w := w) (base := base) T
  refine def_ok (k := 5) T.F_after sc_after (fun cdv A' outer s0 H E hr => ?_)
  have px : Passes (L2.CX P w) (cxOf (L2.CX P w) P w K mg base ["table", "jar", "draw", "a", "b", "counts"] "after" (defScope s_after) T.f_after cdv A' outer s0 H E) E := passes_call (takes_of rfl rfl rfl rfl) (fun _ _ _ _ h => h)
  have nd := sc_after.nd
  have hu65 := units65 hr
  exact (dss_cons (ds_expr (de_call G_need_same_size (hr.mono (by decide)) T.m_need_same_size T.F_need_same_size.kp T.b_need_same_size px (da_cons (de_var 0 (pv 0)) (da_cons (de_var 1 (pv 1)) da_nil)))) (dss_cons (ds_if (dt_not (dt_tru (de_meth (de_var 1 (pv 1)) T.i_Jar.cl T.h_Jar_can_draw G_Jar_can_draw (hr.mono (by decide)) T.b_Jar_can_draw px (da_cons (de_var 2 (pv 2)) da_nil)))) (dss_one ds_no) dss_nil) (dss_cons (ds_asg (de_var 2 (pv 2)) (dg_tup rfl (dgs_cons (dg_name (pg_name (i := 3) nd rfl (Or.inl rfl))) (dgs_cons (dg_name (pg_name (i := 4) nd rfl (Or.inl rfl))) dgs_nil)))) (dss_cons (ds_set (de_meth0 (de_var 1 (pv 1)) T.i_Jar.cl T.h_Jar_counts G_Jar_countsN1 (hr.mono (by decide)) T.b_Jar_counts px) (fun h => ps_set (i := 5) nd rfl (Or.inl rfl) h)) (dss_cons (ds_augsub (de_var 5 (pv 5)) (de_var 3 (pv 3)) de_int) (dss_cons (ds_augsub (de_var 5 (pv 5)) (de_var 4 (pv 4)) de_int) (dss_cons (ds_augadd (de_var 5 (pv 5)) (de_subO (de_var 0 (pv 0)) (de_tup (da_cons (de_var 3 (pv 3)) (da_cons (de_var 4 (pv 4)) da_nil))) T.s_Table_getitem T.n_Table_getitem T.f_Table_getitem G_Table_uugetitemuu (hr.mono (by decide)) T.b_Table_uugetitemuu px) de_int) (dss_one (ds_ret (de_make T.mk_Jar G_Jar_uuinituu (hr.mono (by decide)) T.g_Jar T.b_Jar_uuinituu px (da_cons (de_mv (de_var 5 (pv 5))) da_nil)))))))))))

theorem ok_walked (T : Txt A K mg) : FnOk P w K mg base (L2.CX P w) 7 T.f_walked T.fd_walked ["table", "jar", "draws"] (spD K (g_walked A)) := by
  have G_Jar_can_draw := ok_Jar_can_draw (P := P) (w := w) (base := base) T
  have G_after := ok_after (P := P) (w := w) (base := base) T
  refine def_ok (k := 6) T.F_walked sc_walked (fun cdv A' outer s0 H E hr => ?_)
  have px : Passes (L2.CX P w) (cxOf (L2.CX P w) P w K mg base ["table", "jar", "draws", "jars", "draw"] "walked" (defScope s_walked) T.f_walked cdv A' outer s0 H E) E := passes_call (takes_of rfl rfl rfl rfl) (fun _ _ _ _ h => h)
  have nd := sc_walked.nd
  have hu65 := units65 hr
  exact (dss_cons (ds_set (de_newL (da_cons (de_var 1 (pv 1)) da_nil)) (fun h => ps_set (i := 3) nd rfl (Or.inl rfl) h)) (dss_cons (ds_for (passes_of rfl) rfl (di_seq (de_var 2 (pv 2))) (dg_name (pg_name (i := 4) nd rfl (Or.inl rfl))) (dss_scope (drop := [4]) (dss_cons (ds_if (dt_not (dt_tru (de_meth (de_ix (de_var 3 (pv 3)) (de_neg de_int) (fun _ _ => rfl)) T.i_Jar.cl T.h_Jar_can_draw G_Jar_can_draw (hr.mono (by decide)) T.b_Jar_can_draw px (da_cons (de_var 4 (pv 4)) da_nil)))) (dss_one ds_break) dss_nil) (dss_one (ds_expr (de_append (de_var 3 (pv 3)) (de_call G_after (hr.mono (by decide)) T.m_after T.F_after.kp T.b_after px (da_cons (de_var 0 (pv 0)) (da_cons (de_ix (de_var 3 (pv 3)) (de_neg de_int) (fun _ _ => rfl)) (da_cons (de_var 4 (pv 4)) da_nil)))))))))) (dss_one (ds_ret (de_var 3 (pv 3))))))

theorem ok_Jar_total (T : Txt A K mg) : FnOk P w K mg base (L2.CX P w) 1 T.f_Jar_total T.fd_Jar_total ["self"] (spD K (g_Jar_total A)) := by

  refine def_ok (k := 0) T.F_Jar_total sc_Jar_total (fun cdv A' outer s0 H E hr => ?_)
  have px : Passes (L2.CX P w) (cxOf (L2.CX P w) P w K mg base ["self"] "Jar.total" (defScope s_Jar_total) T.f_Jar_total cdv A' outer s0 H E) E := passes_call (takes_of rfl rfl rfl rfl) (fun _ _ _ _ h => h)
  have nd := sc_Jar_total.nd
  have hu65 := units65 hr
  exact (dss_one (ds_ret (de_cb (cd_sumA rfl) T.n_sum (da_cons (de_fld (de_var 0 (pv 0)) T.i_Jar.cl T.a_Jar_amounts) da_nil))))

theorem ok_played (T : Txt A K mg) : FnOk P w K mg base (L2.CX P w) 8 T.f_played T.fd_played ["table", "jar", "way"] (spD K (g_played A)) := by
  have G_need_beans := ok_need_beans (P := P) (w := w) (base := base) T
  have G_walked := ok_walked (P := P) (w := w) (base := base) T
  have G_Jar_total := ok_Jar_total (P := P) (w := w) (base := base) T
  refine def_ok (k := 7) T.F_played sc_played (fun cdv A' outer s0 H E hr => ?_)
  have px : Passes (L2.CX P w) (cxOf (L2.CX P w) P w K mg base ["table", "jar", "way", "jars"] "played" (defScope s_played) T.f_played cdv A' outer s0 H E) E := passes_call (takes_of rfl rfl rfl rfl) (fun _ _ _ _ h => h)
  have nd := sc_played.nd
  have hu65 := units65 hr
  exact (dss_cons (ds_expr (de_call G_need_beans (hr.mono (by decide)) T.m_need_beans T.F_need_beans.kp T.b_need_beans px (da_cons (de_var 0 (pv 0)) (da_cons (de_var 1 (pv 1)) da_nil)))) (dss_cons (ds_if (dt_not (dt_tru (de_isi T.n_isinstance (de_var 2 (pv 2)) (pe_bltn (v := .ty "list") (u := .type "list") (by rfl) T.n_list (by decide +kernel) rfl) (.ty _) (anB_ok T.q_list)))) (dss_one ds_no) dss_nil) (dss_cons (ds_set (de_call G_walked (hr.mono (by decide)) T.m_walked T.F_walked.kp T.b_walked px (da_cons (de_var 0 (pv 0)) (da_cons (de_var 1 (pv 1)) (da_cons (de_var 2 (pv 2)) da_nil)))) (fun h => ps_set (i := 3) nd rfl (Or.inl rfl) h)) (dss_cons (ds_if (PW.pt (dw_or (dt_cmp od_le (de_cb cd_len T.n_len (da_cons (de_var 3 (pv 3)) da_nil)) (de_cb cd_len T.n_len (da_cons (de_var 2 (pv 2)) da_nil)) (nomark _)) (dw_or1 (dt_cmp od_gt (de_prop (de_ix (de_var 3 (pv 3)) (de_neg de_int) (fun _ _ => rfl)) T.i_Jar.cl T.p_Jar_total G_Jar_total (hr.mono (by decide)) T.b_Jar_total) de_int (nomark _))))) (dss_one ds_no) dss_nil) (dss_one (ds_ret (de_var 3 (pv 3))))))))

theorem ok_Jar_colours (T : Txt A K mg) : FnOk P w K mg base (L2.CX P w) 1 T.f_Jar_colours T.fd_Jar_colours ["self"] (spD K (g_Jar_colours A)) := by

  refine def_ok (k := 0) T.F_Jar_colours sc_Jar_colours (fun cdv A' outer s0 H E hr => ?_)
  have px : Passes (L2.CX P w) (cxOf (L2.CX P w) P w K mg base ["self", "colour", "count"] "Jar.colours" (defScope s_Jar_colours) T.f_Jar_colours cdv A' outer s0 H E) E := passes_call (takes_of rfl rfl rfl rfl) (fun _ _ _ _ h => h)
  have nd := sc_Jar_colours.nd
  have hu65 := units65 hr
  exact (dss_one (ds_ret (de_lc (own := [("colour", 1), ("count", 2)]) rfl nd (di_enumA rfl T.n_enumerate (da_cons (de_fld (de_var 0 (pv 0)) T.i_Jar.cl T.a_Jar_amounts) da_nil)) (blkOk_by (by rfl)) (cg_pair (i := 1) (j := 2) (by decide) (by decide)) (fun _ _ _ _ _ => pg_tup rfl (pgs_cons (pg_name (i := 1) nd rfl (Or.inl rfl)) (pgs_cons (pg_name (i := 2) nd rfl (Or.inl rfl)) pgs_nil))) (fun _ _ _ _ _ => dts_one (dt_cmp od_gt (de_var 2 (pv 2)) de_int (nomark _))) (fun _ _ _ _ _ => (de_var 1 (pv 1))))))

theorem ok_last_of (T : Txt A K mg) : FnOk P w K mg base (L2.CX P w) 9 T.f_last_of T.fd_last_of ["table", "jar", "way"] (spD K (g_last_of A)) := by
  have G_played := ok_played (P := P) (w := w) (base := base) T
  have G_Jar_colours := ok_Jar_colours (P := P) (w := w) (base := base) T
  refine def_ok (k := 8) T.F_last_of sc_last_of (fun cdv A' outer s0 H E hr => ?_)
  have px : Passes (L2.CX P w) (cxOf (L2.CX P w) P w K mg base ["table", "jar", "way", "jars"] "last_of" (defScope s_last_of) T.f_last_of cdv A' outer s0 H E) E := passes_call (takes_of rfl rfl rfl rfl) (fun _ _ _ _ h => h)
  have nd := sc_last_of.nd
  have hu65 := units65 hr
  exact (dss_cons (ds_set (de_call G_played (hr.mono (by decide)) T.m_played T.F_played.kp T.b_played px (da_cons (de_var 0 (pv 0)) (da_cons (de_var 1 (pv 1)) (da_cons (de_var 2 (pv 2)) da_nil)))) (fun h => ps_set (i := 3) nd rfl (Or.inl rfl) h)) (dss_one (ds_ret (de_ix (de_meth0 (de_ix (de_var 3 (pv 3)) (de_neg de_int) (fun _ _ => rfl)) T.i_Jar.cl T.h_Jar_colours G_Jar_colours (hr.mono (by decide)) T.b_Jar_colours px) de_int (fun _ _ => rfl)))))

theorem ok_is_way (T : Txt A K mg) : FnOk P w K mg base (L2.CX P w) 8 T.f_is_way T.fd_is_way ["table", "jar", "way"] (spD K (g_is_way A)) := by
  have G_walked := ok_walked (P := P) (w := w) (base := base) T
  have G_Jar_total := ok_Jar_total (P := P) (w := w) (base := base) T
  refine def_ok (k := 7) T.F_is_way sc_is_way (fun cdv A' outer s0 H E hr => ?_)
  have px : Passes (L2.CX P w) (cxOf (L2.CX P w) P w K mg base ["table", "jar", "way", "jars"] "is_way" (defScope s_is_way) T.f_is_way cdv A' outer s0 H E) E := passes_call (takes_of rfl rfl rfl rfl) (fun _ _ _ _ h => h)
  have nd := sc_is_way.nd
  have hu65 := units65 hr
  exact (dss_cons (ds_if (dt_not (dt_tru (de_isi T.n_isinstance (de_var 2 (pv 2)) (pe_bltn (v := .ty "list") (u := .type "list") (by rfl) T.n_list (by decide +kernel) rfl) (.ty _) (anB_ok T.q_list)))) (dss_one (ds_ret de_bl)) dss_nil) (dss_cons (ds_set (de_call G_walked (hr.mono (by decide)) T.m_walked T.F_walked.kp T.b_walked px (da_cons (de_var 0 (pv 0)) (da_cons (de_var 1 (pv 1)) (da_cons (de_var 2 (pv 2)) da_nil)))) (fun h => ps_set (i := 3) nd rfl (Or.inl rfl) h)) (dss_one (ds_ret (de_and (de_cmp (od_eq hr.units) (de_cb cd_len T.n_len (da_cons (de_var 3 (pv 3)) da_nil)) (de_op od_add (de_cb cd_len T.n_len (da_cons (de_var 2 (pv 2)) da_nil)) de_int) (nomark _)) (de_one (de_cmp (od_eq hr.units) (de_prop (de_ix (de_var 3 (pv 3)) (de_neg de_int) (fun _ _ => rfl)) T.i_Jar.cl T.p_Jar_total G_Jar_total (hr.mono (by decide)) T.b_Jar_total) de_int (nomark _))))))))

theorem ok_is_dispute (T : Txt A K mg) : FnOk P w K mg base (L2.CX P w) 10 T.f_is_dispute T.fd_is_dispute ["table", "value"] (spD K (g_is_dispute A)) := by
  have G_Jar_size := ok_Jar_size (P := P) (w := w) (base := base) T
  have G_Table_size := ok_Table_size (P := P) (w := w) (base := base) T
  have G_Jar_total := ok_Jar_total (P := P) (w := w) (base := base) T
  have G_is_way := ok_is_way (P := P) (w := w) (base := base) T
  have G_last_of := ok_last_of (P := P) (w := w) (base := base) T
  refine def_ok (k := 9) T.F_is_dispute sc_is_dispute (fun cdv A' outer s0 H E hr => ?_)
  have px : Passes (L2.CX P w) (cxOf (L2.CX P w) P w K mg base ["table", "value", "jar", "one", "other"] "is_dispute" (defScope s_is_dispute) T.f_is_dispute cdv A' outer s0 H E) E := passes_call (takes_of rfl rfl rfl rfl) (fun _ _ _ _ h => h)
  have nd := sc_is_dispute.nd
  have hu65 := units65 hr
  exact (dss_cons (ds_if (PW.pt (dw_or (dt_not (dt_tru (de_isi T.n_isinstance (de_var 1 (pv 1)) (pe_bltn (v := .ty "tuple") (u := .type "tuple") (by rfl) T.n_tuple (by decide +kernel) rfl) (.ty _) (anB_ok T.q_tuple)))) (dw_or1 (dt_cmp (od_ne hr.units) (de_cb cd_len T.n_len (da_cons (de_var 1 (pv 1)) da_nil)) de_int (nomark _))))) (dss_one (ds_ret de_bl)) dss_nil) (dss_cons (ds_asg (de_var 1 (pv 1)) (dg_tup rfl (dgs_cons (dg_name (pg_name (i := 2) nd rfl (Or.inl rfl))) (dgs_cons (dg_name (pg_name (i := 3) nd rfl (Or.inl rfl))) (dgs_cons (dg_name (pg_name (i := 4) nd rfl (Or.inl rfl))) dgs_nil))))) (dss_cons (ds_if (PW.pt (dw_or (dt_not (dt_tru (de_isi T.n_isinstance (de_var 2 (pv 2)) (pe_glob (v := .ref A.C_Jar) rfl T.g_Jar rfl) (.own _) (anO_ok T.i_Jar T.y_Jar T.z_Jar)))) (dw_or (dt_cmp (od_ne hr.units) (de_prop (de_var 2 (pv 2)) T.i_Jar.cl T.p_Jar_size G_Jar_size (hr.mono (by decide)) T.b_Jar_size) (de_prop (de_var 0 (pv 0)) T.i_Table.cl T.p_Table_size G_Table_size (hr.mono (by decide)) T.b_Table_size) (nomark _)) (dw_or1 (dt_cmp (od_ne hr.units) (de_prop (de_var 2 (pv 2)) T.i_Jar.cl T.p_Jar_total G_Jar_total (hr.mono (by decide)) T.b_Jar_total) de_int (nomark _)))))) (dss_one (ds_ret de_bl)) dss_nil) (dss_cons (ds_if (PW.pt (dw_or (dt_not (dt_tru (de_call G_is_way (hr.mono (by decide)) T.m_is_way T.F_is_way.kp T.b_is_way px (da_cons (de_var 0 (pv 0)) (da_cons (de_var 2 (pv 2)) (da_cons (de_var 3 (pv 3)) da_nil)))))) (dw_or1 (dt_not (dt_tru (de_call G_is_way (hr.mono (by decide)) T.m_is_way T.F_is_way.kp T.b_is_way px (da_cons (de_var 0 (pv 0)) (da_cons (de_var 2 (pv 2)) (da_cons (de_var 4 (pv 4)) da_nil))))))))) (dss_one (ds_ret de_bl)) dss_nil) (dss_one (ds_ret (de_cmp (od_ne hr.units) (de_call G_last_of (hr.mono (by decide)) T.m_last_of T.F_last_of.kp T.b_last_of px (da_cons (de_var 0 (pv 0)) (da_cons (de_var 2 (pv 2)) (da_cons (de_var 3 (pv 3)) da_nil)))) (de_call G_last_of (hr.mono (by decide)) T.m_last_of T.F_last_of.kp T.b_last_of px (da_cons (de_var 0 (pv 0)) (da_cons (de_var 2 (pv 2)) (da_cons (de_var 4 (pv 4)) da_nil)))) (nomark _))))))))

theorem ok_Jar_uuadduu (T : Txt A K mg) : FnOk P w K mg base (L2.CX P w) 5 T.f_Jar_uuadduu T.fd_Jar_uuadduu ["self", "other"] (spD K (g_Jar_uuadduu A)) := by
  have G_need_same_size := ok_need_same_size (P := P) (w := w) (base := base) T
  have G_Jar_uuinituu := ok_Jar_uuinituu (P := P) (w := w) (base := base) T
  refine def_ok (k := 4) T.F_Jar_uuadduu sc_Jar_uuadduu (fun cdv A' outer s0 H E hr => ?_)
  have px : Passes (L2.CX P w) (cxOf (L2.CX P w) P w K mg base ["self", "other", "one", "more"] "Jar.__add__" (defScope s_Jar_uuadduu) T.f_Jar_uuadduu cdv A' outer s0 H E) E := passes_call (takes_of rfl rfl rfl rfl) (fun _ _ _ _ h => h)
  have nd := sc_Jar_uuadduu.nd
  have hu65 := units65 hr
  exact (dss_cons (ds_if (dt_not (dt_tru (de_isi T.n_isinstance (de_var 1 (pv 1)) (pe_glob (v := .ref A.C_Jar) rfl T.g_Jar rfl) (.own _) (anO_ok T.i_Jar T.y_Jar T.z_Jar)))) (dss_one ds_no) dss_nil) (dss_cons (ds_expr (de_call G_need_same_size (hr.mono (by decide)) T.m_need_same_size T.F_need_same_size.kp T.b_need_same_size px (da_cons (de_var 0 (pv 0)) (da_cons (de_var 1 (pv 1)) da_nil)))) (dss_one (ds_ret (de_make T.mk_Jar G_Jar_uuinituu (hr.mono (by decide)) T.g_Jar T.b_Jar_uuinituu px (da_cons (de_lc (own := [("one", 2), ("more", 3)]) rfl nd (di_zipA rfl T.n_zip (da_cons (de_fld (de_var 0 (pv 0)) T.i_Jar.cl T.a_Jar_amounts) (da_cons (de_fld (de_var 1 (pv 1)) T.i_Jar.cl T.a_Jar_amounts) da_nil))) (blkOk_by (by rfl)) (cg_pair (i := 2) (j := 3) (by decide) (by decide)) (fun _ _ _ _ _ => pg_tup rfl (pgs_cons (pg_name (i := 2) nd rfl (Or.inl rfl)) (pgs_cons (pg_name (i := 3) nd rfl (Or.inl rfl)) pgs_nil))) (fun _ _ _ _ _ => dts_nil) (fun _ _ _ _ _ => (de_op od_add (de_var 2 (pv 2)) (de_var 3 (pv 3))))) da_nil))))))

theorem ok_law (T : Txt A K mg) : FnOk P w K mg base (L2.CX P w) 11 T.f_law T.fd_law ["_law_script"] (spD K (g_law A)) := by
  have G_ulaw_poolN1 := ok_ulaw_poolN1 (P := P) (w := w) (base := base) T
  have G_ulaw_draw := ok_ulaw_draw (P := P) (w := w) (base := base) T
  have G_ulaw_kind := ok_ulaw_kind (P := P) (w := w) (base := base) T
  have G_ulaw_first := ok_ulaw_first (P := P) (w := w) (base := base) T
  have G_Table_uuinituu := ok_Table_uuinituu (P := P) (w := w) (base := base) T
  have G_first_dispute := ok_first_dispute (P := P) (w := w) (base := base) T
  have G_passes := ok_passes (P := P) (w := w) (base := base) T
  have G_dispute := ok_dispute (P := P) (w := w) (base := base) T
  have G_Jar_total := ok_Jar_total (P := P) (w := w) (base := base) T
  have G_Jar_size := ok_Jar_size (P := P) (w := w) (base := base) T
  have G_last_of := ok_last_of (P := P) (w := w) (base := base) T
  have G_is_dispute := ok_is_dispute (P := P) (w := w) (base := base) T
  have G_Jar_uuadduu := ok_Jar_uuadduu (P := P) (w := w) (base := base) T
  refine def_ok (k := 10) T.F_law sc_law (fun cdv A' outer s0 H E hr => ?_)
  have px : Passes (L2.CX P w) (cxOf (L2.CX P w) P w K mg base ["_law_script", "_law_k", "_law_pool_here", "_law_size", "_law_rows_here", "_law_table", "_law_triple", "_law_found", "_law_jar", "_law_one", "_law_other"] "law" (defScope s_law) T.f_law cdv A' outer s0 H E) E := passes_call (takes_of rfl rfl rfl rfl) (fun _ _ _ _ h => h)
  have nd := sc_law.nd
  have hu65 := units65 hr
  exact (dss_cons (ds_for (passes_of rfl) rfl (di_range1 rfl T.n_range (da_cons (de_cb (cd_max2 rfl) T.n_max (da_cons de_int (da_cons (de_cb (cd_min2 rfl) T.n_min (da_cons (de_cb cd_len T.n_len (da_cons (de_var 0 (pv 0)) da_nil)) (da_cons de_int da_nil))) da_nil))) da_nil)) (dg_name (pg_name (i := 1) nd rfl (Or.inl rfl))) (dss_scope (drop := [1, 2, 3, 4, 5, 6, 7, 8, 9, 10]) (dss_cons (ds_set (de_call G_ulaw_poolN1 (hr.mono (by decide)) T.m_ulaw_pool T.F_ulaw_pool.kp T.b_ulaw_pool px (da_cons (de_var 0 (pv 0)) (da_cons (de_var 1 (pv 1)) da_nil))) (fun h => ps_set (i := 2) nd rfl (Or.inl rfl) h)) (dss_cons (ds_set (de_op od_add de_int (de_call G_ulaw_draw (hr.mono (by decide)) T.m_ulaw_draw T.F_ulaw_draw.kp T.b_ulaw_draw px (da_cons (de_var 2 (pv 2)) (da_cons de_int da_nil)))) (fun h => ps_set (i := 3) nd rfl (Or.inl rfl) h)) (dss_cons (ds_set (de_call G_ulaw_kind (hr.mono (by decide)) T.m_ulaw_kind T.F_ulaw_kind.kp T.b_ulaw_kind px (da_cons (de_var 2 (pv 2)) (da_cons (de_var 3 (pv 3)) da_nil))) (fun h => ps_set (i := 4) nd rfl (Or.inl rfl) h)) (dss_cons (ds_par (i := 5) (j := 6) (da_cons (de_make T.mk_Table G_Table_uuinituu (hr.mono (by decide)) T.g_Table T.b_Table_uuinituu px (da_cons (de_var 4 (pv 4)) da_nil)) (da_cons (de_call G_ulaw_first (hr.mono (by decide)) T.m_ulaw_first T.F_ulaw_first.kp T.b_ulaw_first px (da_cons (de_var 4 (pv 4)) (da_cons (de_var 3 (pv 3)) da_nil))) da_nil)) (fun h => ps_par rfl nd rfl rfl (by decide) rfl rfl h (by rfl))) (dss_cons (ds_if (PW.pt (dw_or (dt_cmp (od_ne hr.units) (de_call G_first_dispute (hr.mono (by decide)) T.m_first_dispute T.F_first_dispute.kp T.b_first_dispute px (da_cons (de_var 5 (pv 5)) da_nil)) (de_var 6 (pv 6)) (nomark _)) (dw_or1 (dt_cmp (od_ne hr.units) (de_call G_passes (hr.mono (by decide)) T.m_passes T.F_passes.kp T.b_passes px (da_cons (de_var 5 (pv 5)) da_nil)) (de_cmp od_is (de_var 6 (pv 6)) de_non (nomark _)) (nomark _))))) (dss_one (ds_ret de_bl)) dss_nil) (dss_cons (ds_set (de_call G_dispute (hr.mono (by decide)) T.m_dispute T.F_dispute.kp T.b_dispute px (da_cons (de_var 5 (pv 5)) da_nil)) (fun h => ps_set (i := 7) nd rfl (Or.inl rfl) h)) (dss_cons (ds_if (dt_cmp (od_ne hr.units) (de_cmp od_is (de_var 7 (pv 7)) de_non (nomark _)) (de_cmp od_is (de_var 6 (pv 6)) de_non (nomark _)) (nomark _)) (dss_one (ds_ret de_bl)) dss_nil) (dss_one (ds_if (dt_cmp od_nis (de_var 7 (pv 7)) de_non (nomark _)) (dss_cons (ds_asg (de_var 7 (pv 7)) (dg_tup rfl (dgs_cons (dg_name (pg_name (i := 8) nd rfl (Or.inl rfl))) (dgs_cons (dg_name (pg_name (i := 9) nd rfl (Or.inl rfl))) (dgs_cons (dg_name (pg_name (i := 10) nd rfl (Or.inl rfl))) dgs_nil))))) (dss_cons (ds_if (PW.pt (dw_or (dt_cmp (od_ne hr.units) (de_prop (de_var 8 (pv 8)) T.i_Jar.cl T.p_Jar_total G_Jar_total (hr.mono (by decide)) T.b_Jar_total) de_int (nomark _)) (dw_or1 (dt_cmp (od_ne hr.units) (de_prop (de_var 8 (pv 8)) T.i_Jar.cl T.p_Jar_size G_Jar_size (hr.mono (by decide)) T.b_Jar_size) (de_var 3 (pv 3)) (nomark _))))) (dss_one (ds_ret de_bl)) dss_nil) (dss_cons (ds_if (dt_cmp (od_eq hr.units) (de_call G_last_of (hr.mono (by decide)) T.m_last_of T.F_last_of.kp T.b_last_of px (da_cons (de_var 5 (pv 5)) (da_cons (de_var 8 (pv 8)) (da_cons (de_var 9 (pv 9)) da_nil)))) (de_call G_last_of (hr.mono (by decide)) T.m_last_of T.F_last_of.kp T.b_last_of px (da_cons (de_var 5 (pv 5)) (da_cons (de_var 8 (pv 8)) (da_cons (de_var 10 (pv 10)) da_nil)))) (nomark _)) (dss_one (ds_ret de_bl)) dss_nil) (dss_cons (ds_if (dt_cmp od_nis (de_call G_is_dispute (hr.mono (by decide)) T.m_is_dispute T.F_is_dispute.kp T.b_is_dispute px (da_cons (de_var 5 (pv 5)) (da_cons (de_var 7 (pv 7)) da_nil))) de_bl (nomark _)) (dss_one (ds_ret de_bl)) dss_nil) (dss_cons (ds_if (dt_cmp od_nis (de_call G_is_dispute (hr.mono (by decide)) T.m_is_dispute T.F_is_dispute.kp T.b_is_dispute px (da_cons (de_var 5 (pv 5)) (da_cons (de_tup (da_cons (de_var 8 (pv 8)) (da_cons (de_var 10 (pv 10)) (da_cons (de_var 9 (pv 9)) da_nil)))) da_nil))) de_bl (nomark _)) (dss_one (ds_ret de_bl)) dss_nil) (dss_cons (ds_if (dt_cmp od_nis (de_call G_is_dispute (hr.mono (by decide)) T.m_is_dispute T.F_is_dispute.kp T.b_is_dispute px (da_cons (de_var 5 (pv 5)) (da_cons (de_tup (da_cons (de_var 8 (pv 8)) (da_cons (de_var 9 (pv 9)) (da_cons (de_var 9 (pv 9)) da_nil)))) da_nil))) de_bl (nomark _)) (dss_one (ds_ret de_bl)) dss_nil) (dss_one (ds_if (dt_cmp od_nis (de_call G_is_dispute (hr.mono (by decide)) T.m_is_dispute T.F_is_dispute.kp T.b_is_dispute px (da_cons (de_var 5 (pv 5)) (da_cons (de_tup (da_cons (de_op (od_binO (nm := "__add__") (by decide +kernel) T.s_Jar_add T.f_Jar_add T.e_Jar_add T.i_Jar G_Jar_uuadduu (hr.mono (by decide)) T.b_Jar_uuadduu px) (de_var 8 (pv 8)) (de_var 8 (pv 8))) (da_cons (de_var 9 (pv 9)) (da_cons (de_var 10 (pv 10)) da_nil)))) da_nil))) de_bl (nomark _)) (dss_one (ds_ret de_bl)) dss_nil)))))))) dss_nil))))))))))) (dss_one (ds_ret (de_and (de_call G_passes (hr.mono (by decide)) T.m_passes T.F_passes.kp T.b_passes px (da_cons (de_make T.mk_Table G_Table_uuinituu (hr.mono (by decide)) T.g_Table T.b_Table_uuinituu px (da_cons (de_lst (da_cons (de_lst (da_cons de_int da_nil)) da_nil)) da_nil)) da_nil)) (de_one (de_not (de_call G_passes (hr.mono (by decide)) T.m_passes T.F_passes.kp T.b_passes px (da_cons (de_make T.mk_Table G_Table_uuinituu (hr.mono (by decide)) T.g_Table T.b_Table_uuinituu px (da_cons (de_lst (da_cons (de_lst (da_cons de_int (da_cons de_int da_nil))) (da_cons (de_lst (da_cons de_int (da_cons de_int da_nil))) da_nil))) da_nil)) da_nil))))))))

end
end Law
end
section
namespace Law
open PySem PySem.Spec PyProof.Rows L2 DL
section
variable {A : As} {st : Sto}
def Pool (st : Sto) (p : Nat) : Prop := ∃ c s : Int, st[p]? = some (.lst [.int c, .int s])
theorem at0 {x y : D} : atI [x, y] 0 = some x := rfl
theorem at1 {x y : D} : atI [x, y] 1 = some y := rfl
theorem ix2_0 : ixN 2 0 = some 0 := rfl
theorem ix2_1 : ixN 2 1 = some 1 := rfl
theorem draw_ok {p : Nat} {m : Int} {P : D → Sto → Prop} (hp : Pool st p) (hm : 0 < m) (hm2 : m ≤ 1000)
    (h : ∀ d c s : Int, 0 ≤ d → d < m → P (.int d) (st.set p (.lst [.int c, .int s]))) : W (g_ulaw_draw A [.obj p, .int m]) st P := by
  obtain ⟨c, s, hc⟩ := hp
  have hm3 : m.natAbs < 2 ^ 9000 := Nat.lt_of_le_of_lt (by omega : m.natAbs ≤ 1000) (by decide +kernel)
  have hpl : p < st.length := by
    rcases Nat.lt_or_ge p st.length with q | q
    · exact q
    · rw [List.getElem?_eq_none q] at hc; cases hc
  have e2 : ∀ {s' : Int} {P : D → Sto → Prop}, W (ixD (.obj p) (.int 1)) (st.set p (.lst [.int c, .int s'])) P = P (.int s') (st.set p (.lst [.int c, .int s'])) := fun {s'} {P} => w_ixO (xs := [.int c, .int s']) (by simp [hpl]) at1
  have e0 : ∀ {P : D → Sto → Prop}, W (ixD (.obj p) (.int 0)) st P = P (.int c) st := w_ixO hc at0
  have e1 : ∀ {P : D → Sto → Prop}, W (ixD (.obj p) (.int 1)) st P = P (.int s) st := w_ixO hc at1
  have fin : ∀ (d c s : Int), 0 ≤ d → d < m → TrOk st.length st (st.set p (.lst [.int c, .int s])) ∧ ∃ d', frz st.length (st.set p (.lst [.int c, .int s])) 4 (.int d) = some d' ∧ P d' ((st.set p (.lst [.int c, .int s])).take st.length) := fun d c s h0 h1 =>
    ⟨TrOk.rfl'.setb rfl, .int d, frz_bel rfl, by rw [← List.length_set (i := p) (a := Cell.lst [.int c, .int s]), List.take_length]; exact h d c s h0 h1⟩
  refine w_callM rfl ?_
  unfold b_ulaw_draw startD
  simp only [w_seq, w_sif, w_eB, w_op2, w_var, w_c, List.map_cons, List.map_nil, List.cons_append, List.nil_append, List.getElem?_cons_zero, List.getElem?_cons_succ, e0, w_cmp, w_bD]
  by_cases h0 : 0 < c
  · simp only [h0, decide_true, if_true, w_seq, w_asg, w_op2, w_var, w_c, List.length_cons, List.length_nil, List.map_cons, List.map_nil, List.replicate, List.cons_append, List.nil_append, List.getElem?_cons_zero, List.getElem?_cons_succ, e0, w_mod, w_gN, hm, true_and, goOn_nx, w_gSub, w_div, hm3, and_self, List.set_cons_succ, List.set_cons_zero, w_setD hc ix2_0, w_ret, goOn_rt, ret_rt]
    exact fin _ _ _ (Int.emod_nonneg _ (by omega)) (Int.emod_lt_of_pos _ hm)
  · have k1 : ∀ z : Int, (((-(2 ^ 64) < z ∧ z < 2 ^ 64) ∨ (-(2 ^ 64) < (48271 : Int) ∧ (48271 : Int) < 2 ^ 64)) ∨ z.natAbs.log2 + (48271 : Int).natAbs.log2 < 1000000) := fun z => .inl (.inr (by decide))
    have k2 : ∀ z : Int, 0 ≤ z → z < 2147483647 → (((-(2 ^ 64) < z ∧ z < 2 ^ 64) ∨ (-(2 ^ 64) < z ∧ z < 2 ^ 64)) ∨ z.natAbs.log2 + z.natAbs.log2 < 1000000) := fun z a b => .inl (.inl ⟨by omega, by omega⟩)
    have b1 := Int.emod_nonneg (s * 48271 + 11) (show (2147483647 : Int) ≠ 0 by decide)
    have b2 := Int.emod_lt_of_pos (s * 48271 + 11) (show (0 : Int) < 2147483647 by decide)
    have g64 : (64 : Int).natAbs < 2 ^ 9000 := Nat.lt_of_le_of_lt (by decide : (64 : Int).natAbs ≤ 1000) (by decide +kernel)
    simp only [h0, decide_false, if_false, Bool.false_eq_true, DL.w_next, w_seq, w_asg, w_op2, w_var, w_c, List.length_cons, List.length_nil, List.map_cons, List.map_nil, List.replicate, List.cons_append, List.nil_append, List.getElem?_cons_zero, List.getElem?_cons_succ, e1, w_mul, k1, w_add, w_mod, w_gN, hm, true_and, goOn_nx, w_gSub, w_div, hm3, and_self, List.set_cons_succ, List.set_cons_zero, w_setD hc ix2_1, w_ret, goOn_rt, ret_rt, e2, k2 _ b1 b2, g64, show (0 : Int) < 2147483647 by decide, show (0 : Int) < 2147483629 by decide, show (0 : Int) < 64 by decide]
    exact fin _ _ _ (Int.emod_nonneg _ (by omega)) (Int.emod_lt_of_pos _ hm)
end
end Law
end
section
namespace Law
open PySem PySem.Spec L2 DL
section
variable {A : As} {st : Sto}
theorem mulok {i j : Int} (h : -(2 ^ 64) < j ∧ j < 2 ^ 64) : ((-(2 ^ 64) < i ∧ i < 2 ^ 64) ∨ (-(2 ^ 64) < j ∧ j < 2 ^ 64)) ∨ i.natAbs.log2 + j.natAbs.log2 < 1000000 := .inl (.inr h)
theorem small64 {n : Nat} (h : n ≤ 1000) : -(2 ^ 64) < (n : Int) ∧ (n : Int) < 2 ^ 64 :=
  ⟨Int.lt_of_lt_of_le (by decide) (Int.natCast_nonneg n), Int.lt_of_le_of_lt (Int.ofNat_le.mpr h) (by decide)⟩
theorem seed_ok {k : Nat} (hk : k ≤ 16) (c : Int) : (c % 2147483629 + 7919 * (k : Int) * k + 31).natAbs < 2 ^ 64 := by
    have a := Int.emod_nonneg c (show (2147483629 : Int) ≠ 0 by decide)
    have b := Int.emod_lt_of_pos c (show (0 : Int) < 2147483629 by decide)
    have d : (7919 * (k : Int) * k) ≤ 7919 * 16 * 16 := Int.mul_le_mul (by omega) (by omega) (by omega) (by decide)
    have e : 0 ≤ (7919 * (k : Int) * k) := Int.mul_nonneg (Int.mul_nonneg (by decide) (by omega)) (by omega)
    generalize 7919 * (k : Int) * k = z at *
    have : (c % 2147483629 + z + 31).natAbs ≤ 2147483629 + 7919 * 256 + 31 := by omega
    exact Nat.lt_of_le_of_lt this (by decide)
theorem two_le {x y : D} : [x, y].length ≤ sizeLine := by show 2 ≤ sizeLine; decide
theorem pool_ok {ns : List Int} {k : Nat} {P : D → Sto → Prop} (hk : k ≤ 16)
    (h : ∀ c s : Int, P (.obj st.length) (st ++ [.lst [.int c, .int s]])) : W (g_ulaw_poolN1 A [.fl (ns.map D.int), .int (k : Nat)]) st P := by
  have seed := seed_ok (k := k) hk
  refine w_callN rfl ?_
  rw [show startD 4 [D.fl (ns.map D.int), D.int (k : Nat)] = [some (.fl (ns.map D.int)), some (.int (k : Nat)), none, none] from rfl]
  unfold b_ulaw_poolN1
  rw [w_seq]
  simp only [w_asg, w_c, w_gN, goOn_nx, List.set_cons_succ, List.set_cons_zero]
  rw [w_seq]
  refine W.mono (P := fun fl st1 => ∃ c : Int, fl = .nx [some (.fl (ns.map D.int)), some (.int (k : Nat)), some (.int c), none] ∧ st1 = st) ?_ ?_
  rotate_left
  · intro fl st1 q
    obtain ⟨c, e1, e2⟩ := q
    rw [e1, e2, goOn_nx]
    simp only [w_seq, w_asg, w_op2, w_var, w_c, List.getElem?_cons_zero, List.getElem?_cons_succ, w_mul, mulok (small64 (show k ≤ 1000 by omega)), w_add, w_mod, w_pow, seed c, show (0 : Int) < 2147483647 by decide, show (0 : Int) < 2147483629 by decide, true_and, and_true, w_gN, goOn_nx, List.set_cons_succ, List.set_cons_zero, w_sif, w_eB, w_cmp, w_bD, show (0 : Int) ≤ 3 ∧ (3 : Int) ≤ 1000000 by decide, show (0 : Int) ≤ 3 by decide, show (3 : Int) ≤ 1000000 by decide, show (0 : Int) ≤ 18 by decide, show (18 : Int) ≤ 1000000 by decide, show (10 : Int).natAbs < 2 ^ 64 by decide]
    split
    · simp only [w_asg, w_c, w_gN, goOn_nx, List.set_cons_succ, List.set_cons_zero, w_ret, w_newL, w_cons, w_nil, w_var, List.getElem?_cons_zero, List.getElem?_cons_succ]
      exact ⟨two_le, h _ _⟩
    · simp only [DL.w_next, w_asg, w_c, w_gN, goOn_nx, List.set_cons_succ, List.set_cons_zero, w_ret, w_newL, w_cons, w_nil, w_var, List.getElem?_cons_zero, List.getElem?_cons_succ]
      exact ⟨two_le, h _ _⟩
  simp only [w_sif, w_eB, w_op2, w_var, w_eCall, w_cons, w_nil, w_lenF, w_cmp, w_bD, List.getElem?_cons_zero, List.getElem?_cons_succ, List.length_map]
  by_cases hl : k < ns.length
  · obtain ⟨c, hc⟩ : ∃ c, atI (ns.map D.int) (k : Int) = some (.int c) := ⟨ns[k], DL.atI_nat (by rw [List.getElem?_map, List.getElem?_eq_getElem hl]; rfl)⟩
    have hl2 : (k : Int) < (ns.length : Nat) := by omega
    simp only [hl2, decide_true, if_true, w_asg, w_op2, w_var, List.getElem?_cons_zero, List.getElem?_cons_succ, w_ixF hc, w_gN, List.set_cons_succ, List.set_cons_zero]
    exact ⟨c, rfl, trivial⟩
  · have hl2 : ¬ (k : Int) < (ns.length : Nat) := by omega
    simp only [hl2, decide_false, if_false, Bool.false_eq_true, DL.w_next]
    exact ⟨0, rfl, trivial⟩
end
end Law
end
section
namespace DL
open PySem PySem.Spec L2
def mapR {α : Type} (n : Nat) (f : Nat → α) : List α := (List.range n).map f
theorem mapR_len {α : Type} {n : Nat} {f : Nat → α} : (mapR n f).length = n := by unfold mapR; simp
theorem mapR_get {α : Type} {n i : Nat} {f : Nat → α} (h : i < n) : (mapR n f)[i]? = some (f i) := by unfold mapR; rw [List.getElem?_map, List.getElem?_range h]; rfl
theorem mapR_at {α : Type} {n i : Nat} {f : Nat → α} (h : i < n) : atI (mapR n f) (i : Int) = some (f i) := DL.atI_nat (mapR_get h)
theorem mapR_succ {α : Type} {n : Nat} {f : Nat → α} : mapR (n + 1) f = mapR n f ++ [f n] := by unfold mapR; rw [List.range_succ, List.map_append]; rfl
theorem mapR_ext {α : Type} {n : Nat} {f g : Nat → α} (h : ∀ i, i < n → f i = g i) : mapR n f = mapR n g := by unfold mapR; exact List.map_congr_left fun i hi => h i (List.mem_range.mp hi)
theorem mapR_set {α : Type} {n b : Nat} {f : Nat → α} {v : α} : (mapR n f).set b v = mapR n (fun i => if i = b then v else f i) := by
  apply List.ext_getElem?
  intro i
  by_cases hi : i < n
  · rw [mapR_get hi]
    by_cases hb : b = i
    · subst hb
      rw [List.getElem?_set_self (by rw [mapR_len]; exact hi), if_pos rfl]
    · rw [List.getElem?_set_ne hb, mapR_get hi, if_neg (fun z => hb z.symm)]
  · rw [List.getElem?_eq_none (by rw [List.length_set, mapR_len]; omega), List.getElem?_eq_none (by rw [mapR_len]; omega)]
section
variable {st : Sto} {δ : En}
/-- a comprehension over a range that leaves the store as it is -/
theorem w_lcR {g : TgF} {el : EF} {lo : Int} {n : Nat} {f : Nat → D} {P : List D → Sto → Prop} (step : ∀ i, i < n → W (g (.int (lo + i)) δ) st fun δ1 st1 => W (el δ1) st1 fun y st2 => y = f i ∧ st2 = st) (h : P (mapR n f) st) : W (lcM g eYes el δ (rngD lo n)) st P := by
  refine w_lcM (fun r s => r = mapR r.length f ∧ s = st) (fun x r s hx I => ?_) (fun r s hr I => ?_) ⟨rfl, rfl⟩
  · obtain ⟨hi, rfl⟩ := rngD_getx hx
    obtain ⟨e1, e2⟩ := I
    rw [e2]
    refine (step _ hi).mono fun δ1 st1 q => q.mono fun y st2 q => ?_
    obtain ⟨q1, q2⟩ := q
    refine ⟨?_, q2⟩
    rw [List.length_append, List.length_singleton, mapR_succ, ← e1, q1]
  · obtain ⟨e1, e2⟩ := I
    rw [e2, e1, hr, rngD_length]
    exact h
end
end DL
namespace Law
open PySem PySem.Spec L2 DL
section
variable {A : As} {st : Sto}
def tabD (n : Nat) (t : Nat → Nat → Int) : D := .lst (mapR n fun a => .lst (mapR n fun b => .int (t a b)))
structure Sym (n : Nat) (t : Nat → Nat → Int) : Prop where
  sym : ∀ a b, a < n → b < n → t a b = t b a
  lo : ∀ a b, a < n → b < n → 0 ≤ t a b
  hi : ∀ a b, a < n → b < n → t a b < n
theorem line_le {n : Nat} (h : n ≤ 1000) : n ≤ sizeLine := Nat.le_trans h (by decide)
/-- two comprehensions in each other, over range(size) twice -/
theorem kind_lc {f : Nat → Nat → Int} {el : EF} {n : Nat} {p w : D} (hn : n ≤ 1000) {P : D → Sto → Prop}
    (hel : ∀ a b, a < n → b < n → W (el [some p, some (.int (n : Nat)), some w, some (.int (a : Nat)), some (.int (b : Nat))]) st fun y st2 => y = .int (f a b) ∧ st2 = st) (h : P (tabD n f) st) :
    W (eLc (iR1 (eCons (eVar 1) eNil)) (gN 3) [3] eYes (eLc (iR1 (eCons (eVar 1) eNil)) (gN 4) [4] eYes el) [some p, some (.int (n : Nat)), some w, none, none]) st P := by
  simp only [w_lc, w_iR1, w_cons, w_nil, w_var, List.getElem?_cons_zero, List.getElem?_cons_succ, w_rng1 hn, rngD_length]
  refine ⟨line_le hn, w_lcR (f := fun a => .lst (mapR n fun b => .int (f a b))) (fun a ha => ?_) h⟩
  simp only [wipeD, List.set_cons_succ, List.set_cons_zero, w_gN, w_lc, w_iR1, w_cons, w_nil, w_var, List.getElem?_cons_zero, List.getElem?_cons_succ, w_rng1 hn, rngD_length]
  refine ⟨line_le hn, w_lcR (f := fun b => .int (f a b)) (fun b hb => ?_) ⟨rfl, rfl⟩⟩
  simp only [List.set_cons_succ, List.set_cons_zero, w_gN, Int.zero_add]
  exact hel a b ha hb
end
end Law
end
section
namespace Law
open PySem PySem.Spec L2 DL
section
variable {A : As} {st : Sto}
def rowC (n : Nat) (t : Nat → Nat → Int) (a : Nat) : Cell := .lst (mapR n fun b => .int (t a b))
def Sx (X : Sto) (n : Nat) (t : Nat → Nat → Int) : Sto := X ++ (mapR n (rowC n t) ++ [Cell.lst (mapR n fun a => D.obj (X.length + a))])
theorem sx_len {X : Sto} {n : Nat} {t : Nat → Nat → Int} : (Sx X n t).length = X.length + (n + 1) := by unfold Sx; simp [mapR_len]
theorem sx_old {X : Sto} {n i : Nat} {t : Nat → Nat → Int} (h : i < X.length) : (Sx X n t)[i]? = X[i]? := by unfold Sx; rw [List.getElem?_append_left h]
theorem sx_row {X : Sto} {n a : Nat} {t : Nat → Nat → Int} (h : a < n) : (Sx X n t)[X.length + a]? = some (rowC n t a) := by
  unfold Sx
  rw [List.getElem?_append_right (by omega), List.getElem?_append_left (by rw [mapR_len]; omega), show X.length + a - X.length = a by omega, mapR_get h]
theorem sx_all {X : Sto} {n : Nat} {t : Nat → Nat → Int} : (Sx X n t)[X.length + n]? = some (.lst (mapR n fun a => D.obj (X.length + a))) := by
  unfold Sx
  rw [List.getElem?_append_right (by omega), List.getElem?_append_right (by rw [mapR_len]; omega), mapR_len, show X.length + n - X.length - n = 0 by omega]
  rfl
theorem sx_set {X : Sto} {n a b : Nat} {t : Nat → Nat → Int} {d : Int} (h : a < n) : (Sx X n t).set (X.length + a) (.lst ((mapR n fun b => D.int (t a b)).set b (.int d))) = Sx X n (fun i j => if i = a ∧ j = b then d else t i j) := by
  unfold Sx
  rw [List.set_append_right _ _ (by omega), List.set_append_left _ _ (by rw [mapR_len]; omega), show X.length + a - X.length = a by omega, mapR_set, mapR_set]
  congr 2
  refine mapR_ext fun i hi => ?_
  unfold rowC
  by_cases h1 : i = a
  · subst h1
    rw [if_pos rfl]
    congr 1
    refine mapR_ext fun j hj => ?_
    by_cases h2 : j = b <;> simp [h2]
  · rw [if_neg h1]
    congr 1
    refine mapR_ext fun j hj => ?_
    simp [h1]
theorem sx_pool {X : Sto} {n p : Nat} {t : Nat → Nat → Int} {c : Cell} (h : p < X.length) : (Sx X n t).set p c = Sx (X.set p c) n t := by
  unfold Sx
  rw [List.set_append_left _ _ h, List.length_set]
theorem ixN_nat {n b : Nat} (h : b < n) : ixN n (b : Int) = some b := by
  unfold ixN
  rw [if_pos (Int.natCast_nonneg b), if_pos (by omega)]
  simp
theorem belowDs_map {n m : Nat} {f : Nat → D} (h : ∀ i, i < m → belowD n (f i) = true) : belowDs n (mapR m f) = true := by
  induction m with
  | zero => rfl
  | succ m ih =>
    rw [mapR_succ]
    have app : ∀ xs : List D, ∀ y, belowDs n xs = true → belowD n y = true → belowDs n (xs ++ [y]) = true := by
      intro xs y
      induction xs with
      | nil => intro _ h2; show belowDs n [y] = true; unfold belowDs belowDs; rw [h2]; rfl
      | cons x xs ih2 =>
        intro h1 h2
        show belowDs n (x :: (xs ++ [y])) = true
        unfold belowDs at h1 ⊢
        rw [Bool.and_eq_true] at h1 ⊢
        exact ⟨h1.1, ih2 h1.2 h2⟩
    exact app _ _ (ih fun i hi => h i (by omega)) (h m (by omega))
theorem below_tab {k n : Nat} {t : Nat → Nat → Int} : belowD k (tabD n t) = true := by
  unfold tabD belowD
  exact belowDs_map fun i _ => by
    unfold belowD
    exact belowDs_map fun j _ => by unfold belowD; rfl
theorem frz_tab {X : Sto} {n L : Nat} {t : Nat → Nat → Int} (hL : L ≤ X.length) : frz L (Sx X n t) 4 (.obj (X.length + n)) = some (tabD n t) := by
  have nb : ∀ i, belowD L (.obj (X.length + i)) = false := fun i => by unfold belowD; simp; omega
  unfold frz
  rw [if_neg (by rw [nb]; simp)]
  dsimp only
  rw [sx_all]
  dsimp only
  have rows : ∀ a, a < n → frz L (Sx X n t) 3 (.obj (X.length + a)) = some (.lst (mapR n fun b => .int (t a b))) := fun a ha => by
    unfold frz
    rw [if_neg (by rw [nb]; simp)]
    dsimp only
    rw [sx_row ha]
    unfold rowC
    dsimp only
    unfold mapR
    rw [allM_map (m := fun b => D.int (t a b)) (g := fun b => D.int (t a b)) (fun b _ => frz_bel (by unfold belowD; rfl))]
  unfold mapR
  rw [allM_map (m := fun a => D.obj (X.length + a)) (g := fun a => D.lst (mapR n fun b => .int (t a b))) (fun a ha => rows a (List.mem_range.mp ha))]
  rfl
theorem one_le {x : D} : [x].length ≤ sizeLine := by
  show 1 ≤ sizeLine
  decide
theorem w_mulN0 {n : Nat} {P : D → Sto → Prop} (hn : n ≤ 1000) (h : P (.obj st.length) (st ++ [.lst (mapR n fun _ => .int 0)])) : W (mulN (.lst [.int 0]) (.int (n : Nat))) st P := by
  have e : (List.replicate n [D.int 0]).flatten = mapR n fun _ => D.int 0 := by
    clear h
    induction n with
    | zero => rfl
    | succ n ih =>
      rw [mapR_succ, ← ih (by omega), List.replicate_succ', List.flatten_append]
      rfl
  have hc : -(2 ^ 63) ≤ (n : Int) ∧ (n : Int) < 2 ^ 63 ∧ ([D.int 0] : List D).length * (n : Int).toNat ≤ sizeLine :=
    ⟨Int.le_trans (by decide) (Int.natCast_nonneg n), Int.lt_of_le_of_lt (Int.ofNat_le.mpr hn) (by decide), by rw [Int.toNat_natCast]; simpa using line_le hn⟩
  have k : mulN (.lst [.int 0]) (.int (n : Nat)) st = some (.ok (.obj st.length) (st ++ [.lst (mapR n fun _ => .int 0)])) := by
    unfold mulN asM
    dsimp only
    rw [if_pos hc, Int.toNat_natCast, e]
  rw [W.eq k]
  exact h
theorem lc_rows {n : Nat} {p : D} {P : D → Sto → Prop} (hn : n ≤ 1000) (h : P (.obj (st.length + n)) (Sx st n fun _ _ => 0)) :
    W (eLcN (iR1 (eCons (eVar 1) eNil)) (gN 3) [3] eYes (eOp2 mulN (eLst (eCons (eC (.int 0)) eNil)) (eVar 1)) [some p, some (.int (n : Nat)), none, none, none, none]) st P := by
  simp only [w_lcN, w_iR1, w_cons, w_nil, w_var, List.getElem?_cons_zero, List.getElem?_cons_succ, w_rng1 hn, rngD_length]
  refine ⟨line_le hn, w_lcM (fun r s => r = mapR r.length (fun a => .obj (st.length + a)) ∧ s = st ++ mapR r.length (rowC n fun _ _ => 0)) (fun x r s hx I => ?_) (fun r s hr I => ?_) ⟨rfl, by simp [mapR]⟩⟩
  · obtain ⟨hi, rfl⟩ := rngD_getx hx
    obtain ⟨e1, e2⟩ := I
    simp only [wipeD, List.set_cons_succ, List.set_cons_zero, w_gN, w_op2, w_lst, w_cons, w_nil, w_c, w_var, List.getElem?_cons_zero, List.getElem?_cons_succ]
    refine ⟨one_le, ?_⟩
    refine w_mulN0 hn ?_
    refine ⟨?_, ?_⟩
    · rw [List.length_append, List.length_singleton, mapR_succ, ← e1, e2, List.length_append, mapR_len]
    · rw [List.length_append, List.length_singleton, mapR_succ, e2, List.append_assoc]
      rfl
  · obtain ⟨e1, e2⟩ := I
    rw [rngD_length] at hr
    have e3 : s.length = st.length + n := by rw [e2, List.length_append, mapR_len, hr]
    rw [e3, e2, e1]
    rw [mapR_len, hr, List.append_assoc]
    exact h
end
end Law
end
section
namespace Law
open PySem PySem.Spec L2 DL
section
variable {A : As} {st : Sto}
theorem pool_lt {p : Nat} (h : Pool st p) : p < st.length := by
  obtain ⟨c, s, hc⟩ := h
  rcases Nat.lt_or_ge p st.length with q | q
  · exact q
  · rw [List.getElem?_eq_none q] at hc; cases hc
theorem pool_set {p : Nat} {c s : Int} (h : p < st.length) : Pool (st.set p (.lst [.int c, .int s])) p := ⟨c, s, by simp [h]⟩
/-- the state of rows(..): the pool's cell as it is now, the table's cells behind -/
def RowsSt (st : Sto) (p n : Nat) (s : Sto) : Prop := ∃ (c z : Int) (t : Nat → Nat → Int), Sym n t ∧ s = Sx (st.set p (.lst [.int c, .int z])) n t
theorem tr_same {s s' : Sto} {j : Nat} {c : Cell} (hc : belowC s.length c = true) (e : s' = s.set j c) : TrOk s.length s s' := by
  rw [e]; exact TrOk.rfl'.setb hc
theorem rows_body {p n a b : Nat} (hp : p < st.length) (hn : n ≤ 1000) (ha : a < n) (hb : b < n) {s : Sto} (I : RowsSt st p n s) :
    W (sScope [4, 5] (sSeq (sAsg (eCall (g_ulaw_draw A) (eCons (eVar 0) (eCons (eVar 1) eNil))) (gN 5)) (sSeq (sAsg (eVar 5) (gSubD (eOp2 ixD (eVar 2) (eVar 3)) (eVar 4))) (sAsg (eVar 5) (gSubD (eOp2 ixD (eVar 2) (eVar 4)) (eVar 3))))) [some (.obj p), some (.int (n : Nat)), some (.obj (st.length + n)), some (.int (a : Nat)), some (.int (b : Nat)), none]) s
      fun fl s2 => fl = .nx [some (.obj p), some (.int (n : Nat)), some (.obj (st.length + n)), some (.int (a : Nat)), none, none] ∧ RowsSt st p n s2 := by
  obtain ⟨c, z, t, T, e⟩ := I
  have hX : (st.set p (.lst [.int c, .int z])).length = st.length := List.length_set ..
  have hsl : s.length = st.length + (n + 1) := by rw [e, sx_len, hX]
  have hP : Pool s p := ⟨c, z, by rw [e, sx_old (by rw [hX]; exact hp)]; simp [hp]⟩
  refine w_scope ?_
  rw [w_seq]
  simp only [w_asg, w_eCall, w_cons, w_nil, w_var, List.getElem?_cons_zero, List.getElem?_cons_succ]
  refine draw_ok hP (by omega) (by omega) fun d c' z' h0 h1 => ?_
  have e2 : s.set p (.lst [.int c', .int z']) = Sx (st.set p (.lst [.int c', .int z'])) n t := by
    rw [e, sx_pool (by rw [hX]; exact hp), List.set_set]
  have hX' : (st.set p (.lst [.int c', .int z'])).length = st.length := List.length_set ..
  rw [e2]
  generalize hXX : st.set p (.lst [.int c', .int z']) = X at *
  have all : (Sx X n t)[st.length + n]? = some (.lst (mapR n fun a => D.obj (X.length + a))) := by rw [← hX']; exact sx_all
  have all2 : ∀ t', (Sx X n t')[st.length + n]? = some (.lst (mapR n fun a => D.obj (X.length + a))) := fun t' => by rw [← hX']; exact sx_all
  have ra : (Sx X n t)[X.length + a]? = some (.lst (mapR n fun b => D.int (t a b))) := sx_row ha
  have rb : ∀ t', (Sx X n t')[X.length + b]? = some (.lst (mapR n fun j => D.int (t' b j))) := fun t' => sx_row hb
  simp only [w_gN, goOn_nx, List.set_cons_succ, List.set_cons_zero, w_seq, w_asg, w_gSub, w_op2, w_var, List.getElem?_cons_zero, List.getElem?_cons_succ, w_ixO all (mapR_at ha), w_setD ra (by rw [mapR_len]; exact ixN_nat hb), sx_set ha, w_ixO (all2 _) (mapR_at hb), w_setD (rb _) (by rw [mapR_len]; exact ixN_nat ha), sx_set hb]
  have hlen : (Sx X n fun i j => if i = b ∧ j = a then d else if i = a ∧ j = b then d else t i j).length = s.length := by rw [sx_len, hX', hsl]
  refine ⟨?_, by simp [unsetAll, belowE, belowO, belowD, hsl]; omega, by simp [unsetAll], ?_⟩
  · have k1 : ∀ r : List D, belowDs s.length r = true → belowC s.length (.lst r) = true := fun r h => h
    have f1 : Sx X n (fun i j => if i = b ∧ j = a then d else if i = a ∧ j = b then d else t i j) = ((s.set p (.lst [.int c', .int z'])).set (X.length + a) (.lst ((mapR n fun b => D.int (t a b)).set b (.int d)))).set (X.length + b) (.lst ((mapR n fun j => D.int ((fun i j => if i = a ∧ j = b then d else t i j) b j)).set a (.int d))) := by
      rw [e2, sx_set ha, sx_set hb]
    rw [f1, mapR_set, mapR_set]
    exact ((TrOk.rfl'.setb rfl).setb (k1 _ (belowDs_map fun i _ => by (try dsimp only); split <;> rfl))).setb (k1 _ (belowDs_map fun i _ => by (try dsimp only); split <;> rfl))
  · rw [← hlen, List.take_length]
    refine ⟨c', z', _, ⟨fun i j hi hj => ?_, fun i j hi hj => ?_, fun i j hi hj => ?_⟩, by rw [hXX]⟩
    · have := T.sym i j hi hj
      try dsimp only
      by_cases q1 : i = b ∧ j = a
      · by_cases q2 : j = b ∧ i = a
        · simp [q1, q2]
        · simp [q1]
      · by_cases q2 : i = a ∧ j = b
        · by_cases q3 : a = b <;> simp [q2, q3]
        · rw [if_neg q1, if_neg q2, if_neg (fun z => q2 ⟨z.2, z.1⟩), if_neg (fun z => q1 ⟨z.2, z.1⟩)]
          exact this
    · have := T.lo i j hi hj
      try dsimp only
      split
      · exact h0
      · split
        · exact h0
        · exact this
    · have := T.hi i j hi hj
      try dsimp only
      split
      · exact h1
      · split
        · exact h1
        · exact this
theorem rows_tr {p n : Nat} (hp : p < st.length) {s s2 : Sto} (I : RowsSt st p n s) (J : RowsSt st p n s2) : TrOk s.length s s2 := by
  obtain ⟨c, z, t, _, e⟩ := I
  obtain ⟨c2, z2, t2, _, e2⟩ := J
  have hX : (st.set p (.lst [.int c, .int z])).length = st.length := List.length_set ..
  have hX2 : (st.set p (.lst [.int c2, .int z2])).length = st.length := List.length_set ..
  refine ⟨by rw [e, e2, sx_len, sx_len, hX, hX2]; exact Nat.le_refl _, fun i k hi h => ?_⟩
  rw [e, sx_len, hX] at hi
  rw [e2] at h
  rw [e]
  by_cases h1 : i < st.length
  · rw [sx_old (by rw [hX2]; exact h1)] at h
    by_cases h2 : p = i
    · subst h2
      rw [List.getElem?_set_self hp] at h
      cases h
      exact .inr rfl
    · rw [List.getElem?_set_ne h2] at h
      exact .inl (by rw [sx_old (by rw [hX]; exact h1), List.getElem?_set_ne h2]; exact h)
  · by_cases h3 : i = st.length + n
    · subst h3
      refine .inl ?_
      rw [← h]
      have a1 := sx_all (X := st.set p (.lst [.int c, .int z])) (n := n) (t := t)
      have a2 := sx_all (X := st.set p (.lst [.int c2, .int z2])) (n := n) (t := t2)
      rw [hX] at a1
      rw [hX2] at a2
      rw [a1, a2]
    · refine .inr ?_
      have a2 := sx_row (X := st.set p (.lst [.int c2, .int z2])) (n := n) (a := i - st.length) (t := t2) (by omega)
      rw [hX2, show st.length + (i - st.length) = i by omega] at a2
      rw [a2] at h
      cases h
      show belowDs _ _ = true
      exact belowDs_map fun j _ => rfl
theorem belowE_nil {n : Nat} : belowE n [] = true := rfl
theorem rows_ok {p n : Nat} {P : D → Sto → Prop} (hp : Pool st p) (hn : n ≤ 1000) (hn1 : 1 ≤ n)
    (h : ∀ (c z : Int) (t : Nat → Nat → Int), Sym n t → P (tabD n t) (st.set p (.lst [.int c, .int z]))) : W (g_ulaw_rows A [.obj p, .int (n : Nat)]) st P := by
  have hpl := pool_lt hp
  refine w_callM rfl ?_
  rw [show startD 6 [D.obj p, D.int (n : Nat)] = [some (.obj p), some (.int (n : Nat)), none, none, none, none] from rfl]
  unfold b_ulaw_rows
  rw [w_seq, w_asg]
  refine lc_rows hn ?_
  rw [w_gN, goOn_nx, w_seq, w_for]
  simp only [List.set_cons_succ, List.set_cons_zero, w_iR1, w_cons, w_nil, w_var, List.getElem?_cons_zero, List.getElem?_cons_succ, w_rng1 hn]
  have I0 : RowsSt st p n (Sx st n fun _ _ => 0) := by
    obtain ⟨c, z, hc⟩ := hp
    refine ⟨c, z, fun _ _ => 0, ⟨fun _ _ _ _ => rfl, fun _ _ _ _ => by omega, fun _ _ _ _ => by omega⟩, ?_⟩
    have : st.set p (.lst [.int c, .int z]) = st := by
      apply List.ext_getElem?
      intro i
      by_cases hi : p = i
      · subst hi; rw [List.getElem?_set_self hpl, hc]
      · rw [List.getElem?_set_ne hi]
    rw [this]
  refine w_forM (fun i δ s => (∃ e3, (e3 = none ∨ ∃ a : Nat, e3 = some (.int a)) ∧ δ = [some (.obj p), some (.int (n : Nat)), some (.obj (st.length + n)), e3, none, none]) ∧ RowsSt st p n s) (fun i x δ s hx I => ?_) (fun δ s I => ?_) ⟨⟨none, .inl rfl, rfl⟩, I0⟩
  · obtain ⟨ha, hx⟩ := rngD_getx hx
    obtain ⟨⟨e3, _, hδ⟩, J⟩ := I
    rw [hx, hδ, Int.zero_add, w_gN]
    simp only [List.set_cons_succ, List.set_cons_zero]
    have hsl : ∀ {s}, RowsSt st p n s → s.length = st.length + (n + 1) := fun ⟨_, _, _, _, e⟩ => by rw [e, sx_len, List.length_set]
    refine w_scope ?_
    rw [w_for]
    simp only [w_iR2, w_cons, w_nil, w_var, List.getElem?_cons_zero, List.getElem?_cons_succ, w_rng2 (Nat.le_of_lt ha) hn]
    refine w_forM (fun j δ s2 => δ = [some (.obj p), some (.int (n : Nat)), some (.obj (st.length + n)), some (.int (i : Nat)), none, none] ∧ RowsSt st p n s2) (fun j y δ s2 hy I => ?_) (fun δ s2 I => ?_) ⟨rfl, J⟩
    · obtain ⟨hb, hy⟩ := rngD_getx hy
      obtain ⟨hδ, J⟩ := I
      rw [hy, hδ, w_gN]
      simp only [List.set_cons_succ, List.set_cons_zero]
      have : ((i : Int) + (j : Int)) = ((i + j : Nat) : Int) := by omega
      rw [this]
      refine (rows_body hpl hn ha (by omega) J).mono fun fl s3 q => ?_
      obtain ⟨q1, q2⟩ := q
      rw [q1]
      exact ⟨rfl, q2⟩
    · obtain ⟨hδ, J2⟩ := I
      rw [hδ]
      refine ⟨?_, by simp [unsetAll, belowE, belowO, belowD, hsl J]; omega, ⟨some (.int i), .inr ⟨i, rfl⟩, rfl⟩, ?_⟩
      · exact rows_tr hpl J J2
      · rw [hsl J, ← hsl J2, List.take_length]; exact J2
  · obtain ⟨⟨e3, _, hδ⟩, c, z, t, T, e⟩ := I
    rw [hδ, goOn_nx, w_ret, w_var]
    dsimp only [List.getElem?_cons_zero, List.getElem?_cons_succ]
    rw [e]
    have hX : (st.set p (.lst [.int c, .int z])).length = st.length := List.length_set ..
    refine ⟨?_, tabD n t, ?_, ?_⟩
    · unfold Sx
      exact (TrOk.rfl'.setb rfl).appr
    · rw [← hX]; exact frz_tab (Nat.le_refl _)
    · have : (Sx (st.set p (.lst [.int c, .int z])) n t).take st.length = st.set p (.lst [.int c, .int z]) := by
        unfold Sx
        rw [← hX, List.take_left]
      rw [this]
      exact h c z t T
end
end Law
end
section
namespace Law
open PySem PySem.Spec L2 DL
section
variable {A : As} {st : Sto}
theorem datD_int {k : Nat} {i : Int} : datD st k (.int i) = some (.int i) := by cases k <;> rfl
theorem w_eqI {i j : Int} {P : D → Sto → Prop} : W (eqD (.int i) (.int j)) st P = P (.bl (PyData.eqv (.int i) (.int j))) st := by
  have e : eqD (.int i) (.int j) st = some (.ok (.bl (PyData.eqv (.int i) (.int j))) st) := by
    unfold eqD
    rw [datD_int, datD_int]
  exact W.eq e
theorem eqv_int {i j : Int} : PyData.eqv (.int i) (.int j) = decide (i = j) := by
  first
    | rfl
    | (unfold PyData.eqv; rfl)
    | (simp [PyData.eqv])
theorem pool_len {p : Nat} {c s : Int} : (st.set p (Cell.lst [.int c, .int s])).length = st.length := List.length_set ..
theorem kind_ok {p n : Nat} {P : D → Sto → Prop} (hp : Pool st p) (hn : n ≤ 1000) (hn1 : 1 ≤ n)
    (h : ∀ (c z : Int) (t : Nat → Nat → Int), Sym n t → P (tabD n t) (st.set p (.lst [.int c, .int z]))) : W (g_ulaw_kind A [.obj p, .int (n : Nat)]) st P := by
  have hpl := pool_lt hp
  refine w_callM rfl ?_
  rw [show startD 5 [D.obj p, D.int (n : Nat)] = [some (.obj p), some (.int (n : Nat)), none, none, none] from rfl]
  unfold b_ulaw_kind
  rw [w_seq]
  simp only [w_asg, w_eCall, w_cons, w_nil, w_var, w_c, List.getElem?_cons_zero, List.getElem?_cons_succ]
  refine draw_ok hp (by decide) (by decide) fun d c z h0 h1 => ?_
  rw [w_gN, goOn_nx]
  simp only [List.set_cons_succ, List.set_cons_zero]
  have fin : ∀ (t : Nat → Nat → Int), Sym n t → TrOk st.length st (st.set p (.lst [.int c, .int z])) ∧ Ret st.length (st.set p (.lst [.int c, .int z])) (.rt (tabD n t)) fun d => P d ((st.set p (.lst [.int c, .int z])).take st.length) := fun t T => by
    refine ⟨TrOk.rfl'.setb rfl, tabD n t, frz_bel below_tab, ?_⟩
    have := h c z t T
    rw [← pool_len (st := st) (p := p) (c := c) (s := z), List.take_length]
    exact this
  rw [w_seq]
  simp only [w_sif, w_eB, w_op2, w_var, w_c, List.getElem?_cons_zero, List.getElem?_cons_succ, w_eqI, w_bD, eqv_int]
  by_cases d0 : d = 0
  · rw [if_pos (decide_eq_true d0), w_ret]
    refine kind_lc (f := fun a b => ((a : Int) + b) % n) hn (fun a b ha hb => ?_) ?_
    · simp only [w_op2, w_var, List.getElem?_cons_zero, List.getElem?_cons_succ, w_add, w_mod]
      exact ⟨by omega, trivial, trivial⟩
    · rw [goOn_rt]
      exact fin _ ⟨fun a b _ _ => by rw [Int.add_comm], fun a b _ _ => Int.emod_nonneg _ (by omega), fun a b _ _ => Int.emod_lt_of_pos _ (by omega)⟩
  rw [if_neg (by simpa using d0), DL.w_next, goOn_nx, w_seq]
  simp only [w_sif, w_eB, w_op2, w_var, w_c, List.getElem?_cons_zero, List.getElem?_cons_succ, w_eqI, w_bD, eqv_int]
  by_cases d1 : d = 1
  · rw [if_pos (decide_eq_true d1), w_ret]
    refine kind_lc (f := fun a b => if (b : Int) > a then b else a) hn (fun a b ha hb => ?_) ?_
    · simp only [w_eCall, w_cons, w_nil, w_var, List.getElem?_cons_zero, List.getElem?_cons_succ, w_max]
      exact ⟨trivial, trivial⟩
    · rw [goOn_rt]
      exact fin _ ⟨fun a b _ _ => by (try dsimp only); split <;> split <;> omega, fun a b _ _ => by (try dsimp only); split <;> omega, fun a b _ _ => by (try dsimp only); split <;> omega⟩
  rw [if_neg (by simpa using d1), DL.w_next, goOn_nx, w_seq]
  simp only [w_sif, w_eB, w_op2, w_var, w_c, List.getElem?_cons_zero, List.getElem?_cons_succ, w_eqI, w_bD, eqv_int]
  by_cases d2 : d = 2
  · rw [if_pos (decide_eq_true d2), w_ret]
    refine kind_lc (f := fun a b => if (n : Int) - 1 < a + b then (n : Int) - 1 else a + b) hn (fun a b ha hb => ?_) ?_
    · simp only [w_eCall, w_cons, w_nil, w_op2, w_var, w_c, w_add, w_sub, List.getElem?_cons_zero, List.getElem?_cons_succ, w_min]
      exact ⟨trivial, trivial⟩
    · rw [goOn_rt]
      exact fin _ ⟨fun a b _ _ => by (try dsimp only); split <;> split <;> omega, fun a b _ _ => by (try dsimp only); split <;> omega, fun a b _ _ => by (try dsimp only); split <;> omega⟩
  rw [if_neg (by simpa using d2), DL.w_next, goOn_nx, w_seq]
  simp only [w_sif, w_eB, w_op2, w_var, w_c, List.getElem?_cons_zero, List.getElem?_cons_succ, w_eqI, w_bD, eqv_int]
  by_cases d3 : d = 3
  · rw [if_pos (decide_eq_true d3), w_ret]
    refine kind_lc (f := fun a b => ((a : Int) * b) % n) hn (fun a b ha hb => ?_) ?_
    · simp only [w_op2, w_var, List.getElem?_cons_zero, List.getElem?_cons_succ, w_mul, w_mod]
      exact ⟨mulok (small64 (by omega)), by omega, trivial, trivial⟩
    · rw [goOn_rt]
      exact fin _ ⟨fun a b _ _ => by rw [Int.mul_comm], fun a b _ _ => Int.emod_nonneg _ (by omega), fun a b _ _ => Int.emod_lt_of_pos _ (by omega)⟩
  rw [if_neg (by simpa using d3), DL.w_next, goOn_nx, w_ret]
  simp only [w_eCall, w_cons, w_nil, w_var, List.getElem?_cons_zero, List.getElem?_cons_succ]
  refine rows_ok (pool_set hpl) hn hn1 fun c2 z2 t T => ?_
  rw [List.set_set]
  refine ⟨TrOk.rfl'.setb rfl, tabD n t, frz_bel below_tab, ?_⟩
  have := h c2 z2 t T
  rw [← pool_len (st := st) (p := p) (c := c2) (s := z2), List.take_length]
  exact this
end
end Law
end
section
namespace DL
open PySem PySem.Spec L2
section
variable {st : Sto} {δ : En}
theorem w_isi {an : Tg → Option Bool} {f : EF} {P : D → Sto → Prop} : W (eIsi an f δ) st P = W (f δ) st fun d st1 => W (isiD an d) st1 P := by unfold eIsi; rw [w_bind]
theorem w_isiD {an : Tg → Option Bool} {d : D} {t : Tg} {b : Bool} {P : D → Sto → Prop} (ht : tagD st d = some t) (ha : an t = some b) : W (isiD an d) st P = P (.bl b) st := W.eq (by unfold isiD; rw [ht]; dsimp only; rw [ha])
theorem k_ii : kitB "int" "int" = some true := by decide +kernel
theorem k_bi : kitB "bool" "int" = some true := by decide +kernel
theorem k_ib : kitB "int" "bool" = some false := by decide +kernel
theorem k_bb : kitB "bool" "bool" = some true := by decide +kernel
theorem k_ll : kitB "list" "list" = some true := by decide +kernel
theorem k_tl : kitB "tuple" "list" = some false := by decide +kernel
theorem k_tt : kitB "tuple" "tuple" = some true := by decide +kernel
theorem k_lt : kitB "list" "tuple" = some false := by decide +kernel
theorem k_it : kitB "int" "tuple" = some false := by decide +kernel
theorem k_nt : kitB "NoneType" "tuple" = some false := by decide +kernel
theorem k_st : kitB "str" "tuple" = some false := by decide +kernel
theorem k_si : kitB "str" "int" = some false := by decide +kernel
theorem k_ti : kitB "tuple" "int" = some false := by decide +kernel
theorem allD_ok {n : Nat} {f : Nat → Bool} {P : D → Sto → Prop} (h : P (.bl ((mapR n f).all id)) st) : W (allD [.lst (mapR n fun i => .bl (f i))]) st P := by
  have e : ∀ n, asBls (mapR n fun i => .bl (f i)) = some (mapR n f) := by
    have key : ∀ l : List Nat, asBls (l.map fun i => D.bl (f i)) = some (l.map f) := by
      intro l
      induction l with
      | nil => rfl
      | cons x xs ih =>
        show asBls (D.bl (f x) :: xs.map fun i => D.bl (f i)) = _
        unfold asBls
        rw [ih]
        rfl
    exact fun n => key _
  have k : allD [.lst (mapR n fun i => .bl (f i))] st = some (.ok (.bl ((mapR n f).all id)) st) := by
    unfold allD asL
    dsimp only
    rw [e]
  rw [W.eq k]
  exact h
/-- a comprehension over a list that leaves the store as it is -/
theorem w_lcL {g : TgF} {el : EF} {n : Nat} {x f : Nat → D} {P : List D → Sto → Prop} (step : ∀ i, i < n → W (g (x i) δ) st fun δ1 st1 => W (el δ1) st1 fun y st2 => y = f i ∧ st2 = st) (h : P (mapR n f) st) : W (lcM g eYes el δ (mapR n x)) st P := by
  refine w_lcM (fun r s => r = mapR r.length f ∧ s = st) (fun y r s hx I => ?_) (fun r s hr I => ?_) ⟨rfl, rfl⟩
  · have hi : r.length < n := by
      rcases Nat.lt_or_ge r.length n with q | q
      · exact q
      · rw [List.getElem?_eq_none (by rw [mapR_len]; exact q)] at hx; cases hx
    rw [mapR_get hi] at hx
    cases hx
    obtain ⟨e1, e2⟩ := I
    rw [e2]
    refine (step _ hi).mono fun δ1 st1 q => q.mono fun y st2 q => ?_
    obtain ⟨q1, q2⟩ := q
    refine ⟨?_, q2⟩
    rw [List.length_append, List.length_singleton, mapR_succ, ← e1, q1]
  · obtain ⟨e1, e2⟩ := I
    rw [e2, e1, hr, mapR_len]
    exact h
theorem all_true {n : Nat} {f : Nat → Bool} (h : ∀ i, i < n → f i = true) : (mapR n f).all id = true := by
  unfold mapR
  rw [List.all_map, List.all_eq_true]
  exact fun i hi => h i (List.mem_range.mp hi)
end
end DL
namespace Law
open PySem PySem.Spec L2 DL
section
variable {A : As} {st : Sto}
theorem is_integer_int {i : Int} {P : D → Sto → Prop} (h : P (.bl true) st) : W (g_is_integer A [.int i]) st P := by
  refine w_call0 rfl ?_
  rw [show startD 1 [D.int i] = [some (.int i)] from rfl]
  unfold b_is_integer
  simp only [w_ret, w_and, w_isi, w_var, List.getElem?_cons_zero, w_isiD (an := anB "int" [A.C_Jar, A.C_Table]) (d := .int i) rfl k_ii, w_bD, if_true, w_not, w_isiD (an := anB "bool" [A.C_Jar, A.C_Table]) (d := .int i) rfl k_ib, Bool.not_false]
  exact ⟨trivial, rfl, h⟩
theorem is_integer_bl {b : Bool} {P : D → Sto → Prop} (h : P (.bl false) st) : W (g_is_integer A [.bl b]) st P := by
  refine w_call0 rfl ?_
  rw [show startD 1 [D.bl b] = [some (.bl b)] from rfl]
  unfold b_is_integer
  simp only [w_ret, w_and, w_isi, w_var, List.getElem?_cons_zero, w_isiD (an := anB "int" [A.C_Jar, A.C_Table]) (d := .bl b) rfl k_bi, w_bD, if_true, w_not, w_isiD (an := anB "bool" [A.C_Jar, A.C_Table]) (d := .bl b) rfl k_bb, Bool.not_true]
  exact ⟨trivial, rfl, h⟩
theorem is_integer_str {x : Str} {P : D → Sto → Prop} (h : P (.bl false) st) : W (g_is_integer A [.str x]) st P := by
  refine w_call0 rfl ?_
  rw [show startD 1 [D.str x] = [some (.str x)] from rfl]
  unfold b_is_integer
  simp only [w_ret, w_and, w_isi, w_var, List.getElem?_cons_zero, w_isiD (an := anB "int" [A.C_Jar, A.C_Table]) (d := .str x) rfl k_si, w_bD, if_false, Bool.false_eq_true, w_pure]
  exact ⟨trivial, rfl, h⟩
theorem is_integer_tup {x : List D} {P : D → Sto → Prop} (h : P (.bl false) st) : W (g_is_integer A [.tup x]) st P := by
  refine w_call0 rfl ?_
  rw [show startD 1 [D.tup x] = [some (.tup x)] from rfl]
  unfold b_is_integer
  simp only [w_ret, w_and, w_isi, w_var, List.getElem?_cons_zero, w_isiD (an := anB "int" [A.C_Jar, A.C_Table]) (d := .tup x) rfl k_ti, w_bD, if_false, Bool.false_eq_true, w_pure]
  exact ⟨trivial, rfl, h⟩
theorem is_colour_int {i n : Int} {P : D → Sto → Prop} (h : P (.bl (decide (0 ≤ i ∧ i < n))) st) : W (g_is_colour A [.int i, .int n]) st P := by
  refine w_call0 rfl ?_
  rw [show startD 2 [D.int i, D.int n] = [some (.int i), some (.int n)] from rfl]
  unfold b_is_colour
  simp only [w_ret, w_and, w_eCall, w_cons, w_nil, w_var, List.getElem?_cons_zero, List.getElem?_cons_succ]
  refine is_integer_int ?_
  simp only [w_bD, if_true, w_ch, w_c, w_var, List.getElem?_cons_zero, List.getElem?_cons_succ, w_cmp]
  by_cases h0 : 0 ≤ i
  · simp only [h0, decide_true, if_true, w_bind, w_var, List.getElem?_cons_zero, List.getElem?_cons_succ, w_cmp, true_and] at h ⊢
    exact ⟨rfl, h⟩
  · simp only [h0, decide_false, if_false, Bool.false_eq_true, w_pure, false_and] at h ⊢
    exact ⟨trivial, rfl, h⟩
theorem is_colour_no {d : D} {n : Int} {P : D → Sto → Prop} (hd : ∀ {Q : D → Sto → Prop}, Q (.bl false) st → W (g_is_integer A [d]) st Q) (h : P (.bl false) st) : W (g_is_colour A [d, .int n]) st P := by
  refine w_call0 rfl ?_
  rw [show startD 2 [d, D.int n] = [some d, some (.int n)] from rfl]
  unfold b_is_colour
  simp only [w_ret, w_and, w_eCall, w_cons, w_nil, w_var, List.getElem?_cons_zero, List.getElem?_cons_succ]
  refine hd ?_
  simp only [w_bD, if_false, Bool.false_eq_true, w_pure]
  exact ⟨trivial, rfl, h⟩
theorem is_sequence_lst {xs : List D} {P : D → Sto → Prop} (h : P (.bl true) st) : W (g_is_sequence A [.lst xs]) st P := by
  refine w_call0 rfl ?_
  rw [show startD 1 [D.lst xs] = [some (.lst xs)] from rfl]
  unfold b_is_sequence
  have ka : anB2 "list" "tuple" [A.C_Jar, A.C_Table] (.inl "list") = some true := by unfold anB2; dsimp only; rw [k_ll]
  simp only [w_ret, w_isi, w_var, List.getElem?_cons_zero, w_isiD (d := .lst xs) rfl ka]
  exact ⟨trivial, rfl, h⟩
theorem is_count_int {i : Int} {P : D → Sto → Prop} (h : P (.bl (decide (0 ≤ i))) st) : W (g_is_count A [.int i]) st P := by
  refine w_call0 rfl ?_
  rw [show startD 1 [D.int i] = [some (.int i)] from rfl]
  unfold b_is_count
  simp only [w_ret, w_and, w_eCall, w_cons, w_nil, w_var, List.getElem?_cons_zero]
  refine is_integer_int ?_
  simp only [w_bD, if_true, w_op2, w_var, w_c, List.getElem?_cons_zero, w_cmp]
  exact ⟨trivial, rfl, h⟩
end
end Law
end
section
namespace DL
open PySem PySem.Spec L2
section
variable {st : Sto} {δ : En}
theorem w_make {C : Addr} {g : List D → M D} {xs : List D} {P : D → Sto → Prop} (h : W (g (.obj st.length :: xs)) (st ++ [.ins C []]) fun d st1 => d = .non ∧ TrOk st.length st st1 ∧ ∃ d', frz st.length st1 4 (.obj st.length) = some d' ∧ P d' (st1.take st.length)) : W (makeM C g xs) st P := by
  unfold W at h ⊢
  unfold makeM
  cases e : g (.obj st.length :: xs) (st ++ [.ins C []]) with
  | none => rw [e] at h; exact h.elim
  | some r =>
    rw [e] at h
    cases r with
    | er C' fs st1 => exact h.elim
    | ok d st1 =>
      obtain ⟨rfl, t, q⟩ := h
      have z := w_leave t q
      unfold W at z
      exact z
theorem w_eMake {C : Addr} {g : List D → M D} {f : En → M (List D)} {P : D → Sto → Prop} : W (eMake C g f δ) st P = W (f δ) st fun xs st1 => W (makeM C g xs) st1 P := by unfold eMake; rw [w_bind]
theorem w_fld0 {C : Addr} {fl : Str} {fo fe : EF} {d : D} {i : Nat} {P : Fl → Sto → Prop} (he : W (fe δ) st fun d' s' => d' = d ∧ s' = st) (ho : fo δ st = some (.ok (.obj i) st)) (hc : st[i]? = some (.ins C [])) (h : P (.nx δ) (st.set i (.ins C [(fl, d)]))) : W (sFldD C fl fo fe δ) st P := by
  unfold sFldD
  rw [w_bind]
  refine he.mono fun d' s' ⟨e1, e2⟩ => ?_
  rw [e1, e2, w_bind, W.eq ho]
  dsimp only
  unfold W
  simp only [hc, putD, if_pos (And.intro (rfl : C = C) (show ([] : List (Str × D)).length < 1000 by decide))]
  exact h
@[simp] theorem w_tupleL {xs : List D} {P : D → Sto → Prop} : W (tupleD [.lst xs]) st P = P (.tup xs) st := by with_unfolding_all exact propext Iff.rfl
end
end DL
namespace Law
open PySem PySem.Spec L2 DL
section
variable {A : As} {st : Sto}
def jarD (A : As) (n : Nat) (c : Nat → Int) : D := .ins A.C_Jar [("amounts", .tup (mapR n fun i => .int (c i)))]
def gridD (n : Nat) (t : Nat → Nat → Int) : D := .tup (mapR n fun a => .tup (mapR n fun b => .int (t a b)))
def tableD (A : As) (n : Nat) (t : Nat → Nat → Int) : D := .ins A.C_Table [("grid", gridD n t)]
theorem below_ints {k n : Nat} {c : Nat → Int} : belowDs k (mapR n fun i => .int (c i)) = true := belowDs_map fun i _ => by unfold belowD; rfl
theorem below_grid {k n : Nat} {t : Nat → Nat → Int} : belowD k (gridD n t) = true := by
  unfold gridD belowD
  exact belowDs_map fun i _ => by unfold belowD; exact below_ints
theorem frz_ins {L : Nat} {C : Addr} {f : Str} {d : D} {X : Sto} (hX : X.length = L) (hd : belowD L d = true) : frz L (X ++ [.ins C [(f, d)]]) 4 (.obj L) = some (.ins C [(f, d)]) := by
  unfold frz
  rw [if_neg (by unfold belowD; simp)]
  dsimp only
  rw [← hX, List.getElem?_append_right (Nat.le_refl _), Nat.sub_self]
  simp only [List.getElem?_cons_zero]
  unfold frzFs
  rw [hX, frz_bel hd]
  unfold frzFs
  rfl
theorem jar_init {n : Nat} {c : Nat → Int} {C : Addr} {P : D → Sto → Prop} (hC : C = A.C_Jar) (hn : n ≤ 8) (hn1 : 1 ≤ n) (hc : ∀ i, i < n → 0 ≤ c i) (h : P .non (st ++ [.ins C [("amounts", .tup (mapR n fun i => .int (c i)))]])) :
    W (g_Jar_uuinituu A [.obj st.length, .lst (mapR n fun i => .int (c i))]) (st ++ [.ins C []]) P := by
  have hl : (st ++ [Cell.ins C []]).length = st.length + 1 := by simp
  have hset : ∀ x, (st ++ [Cell.ins C []]).set st.length x = st ++ [x] := fun x => by rw [List.set_append_right _ _ (Nat.le_refl _), Nat.sub_self]; rfl
  refine w_callM rfl ?_
  rw [show startD 3 [D.obj st.length, D.lst (mapR n fun i => .int (c i))] = [some (.obj st.length), some (.lst (mapR n fun i => .int (c i))), none] from rfl]
  unfold b_Jar_uuinituu
  rw [w_seq]
  simp only [w_sif, w_tor, w_tnot, w_eTru, w_eCall, w_cons, w_nil, w_var, List.getElem?_cons_zero, List.getElem?_cons_succ]
  refine is_sequence_lst ?_
  have h1 : ((1 : Int) ≤ ((mapR n fun i => D.int (c i)).length : Nat)) := by rw [mapR_len]; omega
  have h8 : (((mapR n fun i => D.int (c i)).length : Nat) : Int) ≤ 8 := by rw [mapR_len]; omega
  simp only [w_truB, Bool.not_true, if_false, Bool.false_eq_true, w_tnot, w_eB, w_ch, w_c, w_eCall, w_cons, w_nil, w_var, List.getElem?_cons_zero, List.getElem?_cons_succ, w_lenL, w_cmp, w_bD, h1, h8, decide_true, if_true, w_bind, DL.w_next, goOn_nx]
  rw [w_seq]
  simp only [w_sif, w_tnot, w_eTru, w_eCall, w_cons, w_nil, w_lc, w_iSq, w_var, List.getElem?_cons_zero, List.getElem?_cons_succ, w_seqL]
  refine ⟨by rw [mapR_len]; exact line_le (by omega), w_lcL (f := fun i => .bl (decide (0 ≤ c i))) (fun i hi => ?_) ?_⟩
  · rw [w_gN]
    simp only [wipeD, List.set_cons_succ, List.set_cons_zero, w_eCall, w_cons, w_nil, w_var, List.getElem?_cons_zero, List.getElem?_cons_succ]
    exact is_count_int ⟨rfl, rfl⟩
  refine allD_ok ?_
  rw [all_true (fun i hi => decide_eq_true (hc i hi))]
  simp only [w_truB, Bool.not_true, if_false, Bool.false_eq_true, DL.w_next, goOn_nx]
  refine w_fld0 (d := .tup (mapR n fun i => .int (c i))) (i := st.length) ?_ rfl ?_ ?_
  · simp only [w_eCall, w_cons, w_nil, w_var, List.getElem?_cons_zero, List.getElem?_cons_succ, w_tupleL]
    exact ⟨trivial, trivial⟩
  · rw [hC, List.getElem?_append_right (Nat.le_refl _), Nat.sub_self]; rfl
  · rw [← hC, hset]
    have hb : belowD (st.length + 1) (.tup (mapR n fun i => .int (c i))) = true := by unfold belowD; exact below_ints
    refine ⟨?_, ?_⟩
    · have k1 : belowC (st ++ [Cell.ins C []]).length (.ins C [("amounts", .tup (mapR n fun i => .int (c i)))]) = true := by
        show belowFs _ _ = true
        unfold belowFs
        rw [hl, hb]
        rfl
      have k2 := (TrOk.rfl' (st := st ++ [Cell.ins C []])).setb (j := st.length) k1
      rw [hset] at k2
      exact k2
    · rw [ret_nx, hl]
      have : (st ++ [Cell.ins C [("amounts", .tup (mapR n fun i => .int (c i)))]]).take (st.length + 1) = st ++ [Cell.ins C [("amounts", .tup (mapR n fun i => .int (c i)))]] := List.take_of_length_le (by simp)
      rw [this]
      exact h
theorem jar_make {n : Nat} {c : Nat → Int} {P : D → Sto → Prop} (hn : n ≤ 8) (hn1 : 1 ≤ n) (hc : ∀ i, i < n → 0 ≤ c i) (h : P (jarD A n c) st) : W (makeM A.C_Jar (g_Jar_uuinituu A) [.lst (mapR n fun i => .int (c i))]) st P := by
  refine w_make (jar_init rfl hn hn1 hc ⟨rfl, TrOk.app, _, frz_ins rfl (by unfold belowD; exact below_ints), ?_⟩)
  rw [List.take_left]
  exact h
end
end Law
end
section
namespace DL
open PySem PySem.Spec L2
section
variable {st : Sto} {δ : En}
theorem enumD_mapR {n : Nat} {x : Nat → D} : enumD (mapR n x) = mapR n fun i => .tup [.int (i : Nat), x i] := by
  apply List.ext_getElem?
  intro i
  unfold enumD
  rw [List.getElem?_map, List.getElem?_zipIdx]
  by_cases hi : i < n
  · rw [mapR_get hi, mapR_get hi]
    simp
  · rw [List.getElem?_eq_none (by rw [mapR_len]; omega), List.getElem?_eq_none (by rw [mapR_len]; omega)]
    rfl
theorem w_iEnA {f : En → M (List D)} {P : List D → Sto → Prop} : W (iEnA f δ) st P = W (f δ) st fun xs st1 => W (enA xs) st1 P := by unfold iEnA; rw [w_bind]
theorem w_enAL {xs : List D} {P : List D → Sto → Prop} : W (enA [.lst xs]) st P = P (enumD xs) st := W.eq rfl
theorem w_enAT {xs : List D} {P : List D → Sto → Prop} : W (enA [.tup xs]) st P = P (enumD xs) st := W.eq rfl
theorem w_callL {i : Nat} {f0 : Addr} {g : List D → M D} {fa : En → M (List D)} {P : D → Sto → Prop} (h : δ[i]? = some (some (.fn f0))) : W (eCallL i f0 g fa δ) st P = W (eCall g fa δ) st P := by
  have e : eCallL i f0 g fa δ st = eCall g fa δ st := by
    unfold eCallL
    rw [h]
    exact if_pos rfl
  unfold W
  rw [e]
theorem w_nisN {P : D → Sto → Prop} : W (nisD .non .non) st P = P (.bl false) st := by
  have e : nisD .non .non st = some (.ok (.bl false) st) := rfl
  exact W.eq e
theorem w_gT2 {i j : Nat} {x y : D} {P : En → Sto → Prop} : W (gT [gN i, gN j] (.tup [x, y]) δ) st P = P ((δ.set i (some x)).set j (some y)) st := by
  have e : gT [gN i, gN j] (.tup [x, y]) δ st = some (.ok ((δ.set i (some x)).set j (some y)) st) := rfl
  exact W.eq e
theorem w_neI {i j : Int} {P : D → Sto → Prop} : W (neD (.int i) (.int j)) st P = P (.bl (!PyData.eqv (.int i) (.int j))) st := by
  have e : neD (.int i) (.int j) st = some (.ok (.bl (!PyData.eqv (.int i) (.int j))) st) := by
    unfold neD
    rw [Law.datD_int, Law.datD_int]
  exact W.eq e
end
end DL
namespace Law
open PySem PySem.Spec L2 DL
section
variable {A : As} {st : Sto}
theorem is_square_tab {n : Nat} {t : Nat → Nat → Int} {P : D → Sto → Prop} (hn : n ≤ 8) (hn1 : 1 ≤ n) (h : P (.bl true) st) : W (g_is_square A [tabD n t]) st P := by
  refine w_call0 rfl ?_
  unfold tabD
  generalize hrow : (fun a => D.lst (mapR n fun b => D.int (t a b))) = row
  rw [show startD 2 [D.lst (mapR n row)] = [some (.lst (mapR n row)), none] from rfl]
  unfold b_is_square
  rw [w_seq]
  simp only [w_sif, w_tor, w_tnot, w_eTru, w_eCall, w_cons, w_nil, w_var, List.getElem?_cons_zero, List.getElem?_cons_succ]
  refine is_sequence_lst ?_
  have h1 : ((1 : Int) ≤ ((mapR n row).length : Nat)) := by rw [mapR_len]; omega
  have h8 : (((mapR n row).length : Nat) : Int) ≤ 8 := by rw [mapR_len]; omega
  simp only [w_truB, Bool.not_true, if_false, Bool.false_eq_true, w_tnot, w_eB, w_ch, w_c, w_eCall, w_cons, w_nil, w_var, List.getElem?_cons_zero, List.getElem?_cons_succ, w_lenL, w_cmp, w_bD, h1, h8, decide_true, if_true, w_bind, DL.w_next, goOn_nx]
  simp only [w_ret, w_eCall, w_cons, w_nil, w_lc, w_iSq, w_var, List.getElem?_cons_zero, List.getElem?_cons_succ, w_seqL]
  refine ⟨by rw [mapR_len]; exact line_le (by omega), w_lcL (f := fun i => .bl true) (fun i hi => ?_) ?_⟩
  · rw [w_gN]
    simp only [wipeD, List.set_cons_succ, List.set_cons_zero, w_and, w_eCall, w_cons, w_nil, w_var, List.getElem?_cons_zero, List.getElem?_cons_succ]
    rw [← hrow]
    refine is_sequence_lst ?_
    simp only [w_bD, if_true, w_op2, w_eCall, w_cons, w_nil, w_var, List.getElem?_cons_zero, List.getElem?_cons_succ, w_lenL, mapR_len, w_eqI, eqv_int, decide_true]
    exact ⟨trivial, trivial⟩
  refine allD_ok ?_
  rw [all_true (fun i hi => rfl)]
  exact ⟨rfl, rfl, h⟩
theorem fwp_none {n : Nat} {t : Nat → Nat → Int} {P : D → Sto → Prop} (T : Sym n t) (hn : n ≤ 8) (h : P .non st) : W (g_first_wrong_place A [tabD n t, .fn A.F_is_colour]) st P := by
  refine w_call0 rfl ?_
  have hrows : tabD n t = .lst (mapR n fun a => .lst (mapR n fun b => .int (t a b))) := rfl
  have b1 : belowD st.length (tabD n t) = true := below_tab
  have bf : belowD st.length (.fn A.F_is_colour) = true := by unfold belowD; rfl
  rw [show startD 6 [tabD n t, .fn A.F_is_colour] = [some (tabD n t), some (.fn A.F_is_colour), none, none, none, none] from rfl]
  unfold b_first_wrong_place
  rw [w_seq, w_for]
  simp only [w_iEnA, w_cons, w_nil, w_var, List.getElem?_cons_zero, List.getElem?_cons_succ]
  rw [hrows, w_enAL, enumD_mapR]
  refine w_forM (fun i δ s => δ = [some (tabD n t), some (.fn A.F_is_colour), none, none, none, none] ∧ s = st) (fun i x δ s hx I => ?_) (fun δ s I => ?_) ⟨rfl, rfl⟩
  · have hi : i < n := by
      rcases Nat.lt_or_ge i n with q | q
      · exact q
      · rw [List.getElem?_eq_none (by rw [mapR_len]; exact q)] at hx; cases hx
    rw [mapR_get hi] at hx
    obtain ⟨hδ, hs⟩ := I
    rw [← Option.some.inj hx, hδ, hs, w_gT2]
    simp only [List.set_cons_succ, List.set_cons_zero]
    refine w_scope ?_
    rw [w_for]
    simp only [w_iEnA, w_cons, w_nil, w_var, List.getElem?_cons_zero, List.getElem?_cons_succ]
    rw [w_enAL, enumD_mapR]
    refine w_forM (fun j δ s => δ = [some (tabD n t), some (.fn A.F_is_colour), some (.int (i : Nat)), some (.lst (mapR n fun b => .int (t i b))), none, none] ∧ s = st) (fun j y δ s hy I => ?_) (fun δ s I => ?_) ⟨rfl, rfl⟩
    · have hj : j < n := by
        rcases Nat.lt_or_ge j n with q | q
        · exact q
        · rw [List.getElem?_eq_none (by rw [mapR_len]; exact q)] at hy; cases hy
      rw [mapR_get hj] at hy
      obtain ⟨hδ, hs⟩ := I
      rw [← Option.some.inj hy, hδ, hs, w_gT2]
      simp only [List.set_cons_succ, List.set_cons_zero]
      refine w_scope ?_
      simp only [w_sif, w_tor, w_tnot, w_eTru]
      rw [w_callL rfl]
      simp only [w_eCall, w_cons, w_nil, w_var, List.getElem?_cons_zero, List.getElem?_cons_succ]
      rw [hrows]
      simp only [w_lenL, mapR_len]
      refine is_colour_int ?_
      have c1 : decide (0 ≤ t i j ∧ t i j < (n : Nat)) = true := decide_eq_true ⟨T.lo i j hi hj, T.hi i j hi hj⟩
      rw [c1]
      simp only [w_truB, Bool.not_true, if_false, Bool.false_eq_true, w_tand, w_eB, w_op2, w_var, List.getElem?_cons_zero, List.getElem?_cons_succ, w_cmp, w_bD]
      have no : W (sNext [some (.lst (mapR n fun a => .lst (mapR n fun b => .int (t a b)))), some (.fn A.F_is_colour), some (.int (i : Nat)), some (.lst (mapR n fun b => .int (t i b))), some (.int (j : Nat)), some (.int (t i j))]) st fun fl st1 => match fl with
          | .nx δ' => TrOk st.length st st1 ∧ belowE st.length (unsetAll δ' [4, 5]) = true ∧ (unsetAll δ' [4, 5] = [some (tabD n t), some (.fn A.F_is_colour), some (.int (i : Nat)), some (.lst (mapR n fun b => .int (t i b))), none, none] ∧ st1.take st.length = st)
          | _ => False := by
        rw [DL.w_next]
        refine ⟨.rfl', ?_, rfl, List.take_length⟩
        have b2 : belowD st.length (.lst (mapR n fun a => .lst (mapR n fun b => .int (t a b)))) = true := below_tab
        have b3 : belowD st.length (.lst (mapR n fun b => .int (t i b))) = true := by unfold belowD; exact below_ints
        have b4 : belowD st.length (.int (i : Nat)) = true := by unfold belowD; rfl
        simp only [unsetAll, belowE, List.set_cons_succ, List.set_cons_zero, List.all_cons, List.all_nil, belowO, bf, b2, b3, b4, Bool.and_true, Bool.and_self]
      by_cases hji : (j : Int) < (i : Nat)
      · rw [if_pos (decide_eq_true hji)]
        simp only [w_eB, w_op2, w_var, List.getElem?_cons_zero, List.getElem?_cons_succ, w_ixL (mapR_at (n := n) (f := fun a => D.lst (mapR n fun b => .int (t a b))) hj), w_ixL (mapR_at (n := n) (f := fun b => D.int (t j b)) hi), w_neI, eqv_int, w_bD]
        rw [decide_eq_true (T.sym i j hi hj), Bool.not_true, if_neg (by simp)]
        refine no.mono fun fl st1 q => ?_
        cases fl with
        | nx δ' => exact q
        | _ => exact q.elim
      · rw [if_neg (by simpa using hji), w_pure, if_neg (by simp)]
        refine no.mono fun fl st1 q => ?_
        cases fl with
        | nx δ' => exact q
        | _ => exact q.elim
    · obtain ⟨hδ, hs⟩ := I
      rw [hδ, hs]
      refine ⟨.rfl', ?_, rfl, List.take_length⟩
      simp only [unsetAll, belowE, List.set_cons_succ, List.set_cons_zero, List.all_cons, List.all_nil, belowO, b1, bf, Bool.and_true, Bool.and_self]
  · obtain ⟨hδ, hs⟩ := I
    rw [hδ, hs, goOn_nx, w_ret, w_c]
    exact ⟨rfl, by unfold belowD; rfl, h⟩
theorem table_init {n : Nat} {t : Nat → Nat → Int} {P : D → Sto → Prop} (T : Sym n t) (hn : n ≤ 8) (hn1 : 1 ≤ n) (h : P .non (st ++ [.ins A.C_Table [("grid", gridD n t)]])) :
    W (g_Table_uuinituu A [.obj st.length, tabD n t]) (st ++ [.ins A.C_Table []]) P := by
  have hl : (st ++ [Cell.ins A.C_Table []]).length = st.length + 1 := by simp
  have hset : ∀ x, (st ++ [Cell.ins A.C_Table []]).set st.length x = st ++ [x] := fun x => by rw [List.set_append_right _ _ (Nat.le_refl _), Nat.sub_self]; rfl
  refine w_callM rfl ?_
  generalize hs0 : st ++ [Cell.ins A.C_Table []] = s0 at *
  have hrows : tabD n t = .lst (mapR n fun a => .lst (mapR n fun b => .int (t a b))) := rfl
  rw [show startD 4 [D.obj st.length, tabD n t] = [some (.obj st.length), some (tabD n t), none, none] from rfl]
  unfold b_Table_uuinituu
  rw [w_seq]
  simp only [w_sif, w_tnot, w_eTru, w_eCall, w_cons, w_nil, w_var, List.getElem?_cons_zero, List.getElem?_cons_succ]
  refine is_square_tab hn hn1 ?_
  simp only [w_truB, Bool.not_true, if_false, Bool.false_eq_true, DL.w_next, goOn_nx]
  rw [w_seq]
  simp only [w_asg, w_eCall, w_cons, w_nil, w_c, w_var, List.getElem?_cons_zero, List.getElem?_cons_succ]
  refine fwp_none T hn ?_
  rw [w_gN, goOn_nx, w_seq]
  simp only [List.set_cons_succ, List.set_cons_zero, w_sif, w_eB, w_op2, w_c, w_var, List.getElem?_cons_zero, List.getElem?_cons_succ, w_nisN, w_bD, if_false, Bool.false_eq_true, DL.w_next, goOn_nx]
  refine w_fld0 (d := gridD n t) (i := st.length) ?_ rfl ?_ ?_
  · simp only [w_eCall, w_cons, w_nil, w_lc, w_iSq, w_var, List.getElem?_cons_zero, List.getElem?_cons_succ]
    rw [hrows, w_seqL]
    refine ⟨by rw [mapR_len]; exact line_le (by omega), w_lcL (f := fun a => .tup (mapR n fun b => .int (t a b))) (fun a ha => ?_) ?_⟩
    · rw [w_gN]
      simp only [wipeD, List.set_cons_succ, List.set_cons_zero, w_eCall, w_cons, w_nil, w_var, List.getElem?_cons_zero, List.getElem?_cons_succ, w_tupleL]
      exact ⟨trivial, trivial⟩
    · rw [w_tupleL]; exact ⟨rfl, rfl⟩
  · rw [← hs0, List.getElem?_append_right (Nat.le_refl _), Nat.sub_self]; rfl
  · rw [hset]
    refine ⟨?_, ?_⟩
    · have k1 : belowC s0.length (.ins A.C_Table [("grid", gridD n t)]) = true := by
        show belowFs _ _ = true
        unfold belowFs
        rw [below_grid]
        rfl
      have k2 := (TrOk.rfl' (st := s0)).setb (j := st.length) k1
      rw [hset] at k2
      exact k2
    · rw [ret_nx, hl]
      have : (st ++ [Cell.ins A.C_Table [("grid", gridD n t)]]).take (st.length + 1) = st ++ [Cell.ins A.C_Table [("grid", gridD n t)]] := List.take_of_length_le (by simp)
      rw [this]
      exact h
theorem table_make {n : Nat} {t : Nat → Nat → Int} {P : D → Sto → Prop} (T : Sym n t) (hn : n ≤ 8) (hn1 : 1 ≤ n) (h : P (tableD A n t) st) : W (makeM A.C_Table (g_Table_uuinituu A) [tabD n t]) st P := by
  refine w_make (table_init T hn hn1 ⟨rfl, TrOk.app, _, frz_ins rfl below_grid, ?_⟩)
  rw [List.take_left]
  exact h
end
end Law
end
section
namespace DL
open PySem PySem.Spec L2
section
variable {st : Sto} {δ : En}
theorem mapR_ati {α : Type} {n : Nat} {f : Nat → α} {x : Int} (h0 : 0 ≤ x) (h1 : x < n) : atI (mapR n f) x = some (f x.toNat) := by
  have e := mapR_at (n := n) (i := x.toNat) (f := f) (by omega)
  rw [show ((x.toNat : Nat) : Int) = x by omega] at e
  exact e
theorem w_lcE {xs : List D} {g : TgF} {el : EF} {n : Nat} {x f : Nat → D} {P : List D → Sto → Prop} (e : xs = mapR n x) (step : ∀ i, i < n → W (g (x i) δ) st fun δ1 st1 => W (el δ1) st1 fun y st2 => y = f i ∧ st2 = st) (h : P (mapR n f) st) : W (lcM g eYes el δ xs) st P := by
  rw [e]
  exact w_lcL step h
theorem w_own {C : Addr} {g : List D → M D} {fs : List (Str × D)} {xs : List D} {P : D → Sto → Prop} : W (ownM C g (.ins C fs) xs) st P = W (g (.ins C fs :: xs)) st P := by
  unfold ownM
  rw [w_bind]
  exact W.eq (by unfold ofC' asI; dsimp only; rw [if_pos rfl])
theorem w_inO {C : Addr} {g : List D → M D} {fs : List (Str × D)} {x : D} {P : D → Sto → Prop} : W (inOD C g x (.ins C fs)) st P = W (g [.ins C fs, x]) st fun d st1 => W (bD d) st1 fun b st2 => P (.bl b) st2 := by
  unfold inOD
  simp only [w_bind, w_own, w_pure]
theorem w_fld {C : Addr} {f : Str} {d : D} {fo : EF} {P : D → Sto → Prop} (ho : fo δ st = some (.ok (.ins C [(f, d)]) st)) : W (eFld C f fo δ) st P = P d st := by
  unfold eFld
  rw [w_bind, W.eq ho]
  refine W.eq ?_
  unfold fldC asI
  dsimp only
  rw [if_pos rfl]
  simp only [List.lookup, BEq.rfl]
end
end DL
namespace Law
open PySem PySem.Spec L2 DL
section
variable {A : As} {st : Sto}
theorem is_pair_tup {xs : List D} {P : D → Sto → Prop} (h : P (.bl (decide (xs.length = 2))) st) : W (g_is_pair A [.tup xs]) st P := by
  refine w_call0 rfl ?_
  rw [show startD 1 [D.tup xs] = [some (.tup xs)] from rfl]
  unfold b_is_pair
  simp only [w_ret, w_and, w_isi, w_var, List.getElem?_cons_zero, w_isiD (an := anB "tuple" [A.C_Jar, A.C_Table]) (d := .tup xs) rfl k_tt, w_bD, if_true, w_op2, w_eCall, w_cons, w_nil, w_lenT, w_c, w_eqI, eqv_int]
  have e : decide (((xs.length : Nat) : Int) = 2) = decide (xs.length = 2) := by
    by_cases q : xs.length = 2 <;> simp [q] <;> omega
  rw [e]
  exact ⟨trivial, rfl, h⟩
theorem is_pair_no {d : D} {t : String} {P : D → Sto → Prop} (ht : ∀ st, tagD st d = some (.inl t)) (hk : kitB t "tuple" = some false) (h : P (.bl false) st) : W (g_is_pair A [d]) st P := by
  refine w_call0 rfl ?_
  rw [show startD 1 [d] = [some d] from rfl]
  unfold b_is_pair
  simp only [w_ret, w_and, w_isi, w_var, List.getElem?_cons_zero, w_isiD (an := anB "tuple" [A.C_Jar, A.C_Table]) (d := d) (ht _) hk, w_bD, if_false, Bool.false_eq_true, w_pure]
  exact ⟨trivial, rfl, h⟩
def inB (n : Nat) (c : Nat → Int) (x : Int) : Bool := decide (0 ≤ x ∧ x < n) && decide (0 < c x.toNat)
theorem contains_int {n : Nat} {c : Nat → Int} {x : Int} {P : D → Sto → Prop} (h : P (.bl (inB n c x)) st) : W (g_Jar_uucontainsuu A [jarD A n c, .int x]) st P := by
  refine w_call0 rfl ?_
  rw [show startD 2 [jarD A n c, D.int x] = [some (jarD A n c), some (.int x)] from rfl]
  unfold b_Jar_uucontainsuu
  have fo : eVar 0 [some (jarD A n c), some (.int x)] st = some (.ok (.ins A.C_Jar [("amounts", .tup (mapR n fun i => .int (c i)))]) st) := rfl
  simp only [w_ret, w_and, w_eCall, w_cons, w_nil, w_var, List.getElem?_cons_zero, List.getElem?_cons_succ, w_fld fo, w_lenT, mapR_len]
  refine is_colour_int ?_
  rw [w_bD]
  unfold inB at h
  by_cases h0 : 0 ≤ x ∧ x < n
  · rw [if_pos (decide_eq_true h0), w_op2, w_op2, w_fld fo, w_var]
    dsimp only [List.getElem?_cons_zero, List.getElem?_cons_succ]
    have hx : x = ((x.toNat : Nat) : Int) := by omega
    rw [w_ixT (d := .int (c x.toNat)) (mapR_ati h0.1 h0.2), w_c, w_cmp]
    rw [decide_eq_true h0, Bool.true_and] at h
    exact ⟨rfl, rfl, h⟩
  · rw [if_neg (by simpa using h0), w_pure]
    rw [decide_eq_false h0, Bool.false_and] at h
    exact ⟨rfl, rfl, h⟩
theorem contains_no {n : Nat} {c : Nat → Int} {d : D} {P : D → Sto → Prop} (hd : ∀ {Q : D → Sto → Prop}, Q (.bl false) st → W (g_is_integer A [d]) st Q) (h : P (.bl false) st) : W (g_Jar_uucontainsuu A [jarD A n c, d]) st P := by
  refine w_call0 rfl ?_
  rw [show startD 2 [jarD A n c, d] = [some (jarD A n c), some d] from rfl]
  unfold b_Jar_uucontainsuu
  have fo : eVar 0 [some (jarD A n c), some d] st = some (.ok (.ins A.C_Jar [("amounts", .tup (mapR n fun i => .int (c i)))]) st) := rfl
  simp only [w_ret, w_and, w_eCall, w_cons, w_nil, w_var, List.getElem?_cons_zero, List.getElem?_cons_succ, w_fld fo, w_lenT, mapR_len]
  refine is_colour_no hd ?_
  rw [w_bD, if_neg (by simp), w_pure]
  exact ⟨rfl, rfl, h⟩
def canB (n : Nat) (c : Nat → Int) (x y : Int) : Bool := inB n c x && inB n c y && (decide (x < y) || (decide (x = y) && decide (1 < c x.toNat)))
/-- the jar's can_draw of what is no pair -/
theorem can_no {n : Nat} {c : Nat → Int} {d : D} {P : D → Sto → Prop} (hd : ∀ {Q : D → Sto → Prop}, Q (.bl false) st → W (g_is_pair A [d]) st Q) (h : P (.bl false) st) : W (g_Jar_can_draw A [jarD A n c, d]) st P := by
  refine w_call0 rfl ?_
  rw [show startD 5 [jarD A n c, d] = [some (jarD A n c), some d, none, none, none] from rfl]
  unfold b_Jar_can_draw
  rw [w_seq]
  simp only [w_sif, w_tor, w_tnot, w_eTru, w_eCall, w_cons, w_nil, w_var, List.getElem?_cons_zero, List.getElem?_cons_succ]
  refine hd ?_
  simp only [w_truB, Bool.not_false, if_true, w_pure, w_ret, w_c, goOn_rt]
  exact ⟨trivial, rfl, h⟩
/-- .. of a pair, what contains answers of both -/
theorem can_pair {n : Nat} {c : Nat → Int} {x y : D} {bx b2 : Bool} {P : D → Sto → Prop} (hx : ∀ {Q : D → Sto → Prop}, Q (.bl bx) st → W (g_Jar_uucontainsuu A [jarD A n c, x]) st Q) (hy : ∀ {Q : D → Sto → Prop}, Q (.bl b2) st → W (g_Jar_uucontainsuu A [jarD A n c, y]) st Q)
    (h1 : (bx && b2) = false → P (.bl false) st) (h2 : bx = true → b2 = true → ∃ i j : Int, x = .int i ∧ y = .int j ∧ (0 ≤ i ∧ i < n) ∧ P (.bl (decide (i < j) || (decide (i = j) && decide (1 < c i.toNat)))) st) : W (g_Jar_can_draw A [jarD A n c, .tup [x, y]]) st P := by
  refine w_call0 rfl ?_
  rw [show startD 5 [jarD A n c, .tup [x, y]] = [some (jarD A n c), some (.tup [x, y]), none, none, none] from rfl]
  unfold b_Jar_can_draw
  rw [w_seq]
  simp only [w_sif, w_tor, w_tnot, w_eTru, w_eCall, w_cons, w_nil, w_var, List.getElem?_cons_zero, List.getElem?_cons_succ]
  refine is_pair_tup ?_
  simp only [w_truB, List.length_cons, List.length_nil, decide_true, Nat.reduceAdd, Bool.not_true, if_false, Bool.false_eq_true, w_tnot, w_eTru, w_eCall, w_cons, w_nil, w_lc, w_iSq, w_var, List.getElem?_cons_zero, List.getElem?_cons_succ, w_seqT]
  have exy : [x, y] = mapR 2 fun i => if i = 0 then x else y := rfl
  refine ⟨line_le (n := 2) (by decide), ?_⟩
  refine w_lcE exy (f := fun i => .bl (if i = 0 then bx else b2)) (fun i hi => ?_) ?_
  · rw [w_gN]
    simp only [wipeD, List.set_cons_succ, List.set_cons_zero, w_op2, w_var, List.getElem?_cons_zero, List.getElem?_cons_succ]
    unfold jarD
    rw [w_inO]
    by_cases h0 : i = 0
    · rw [if_pos h0, if_pos h0]
      refine hx ?_
      rw [w_bD]
      exact ⟨rfl, rfl⟩
    · rw [if_neg h0, if_neg h0]
      refine hy ?_
      rw [w_bD]
      exact ⟨rfl, rfl⟩
  refine allD_ok ?_
  have eb : (mapR 2 fun i => if i = 0 then bx else b2).all id = (bx && b2) := by
    show ([bx, b2].all id) = _
    simp
  rw [eb, w_truB]
  cases hb : bx && b2 with
  | false =>
    simp only [Bool.not_false, if_true, w_ret, w_c, goOn_rt]
    exact ⟨trivial, rfl, h1 hb⟩
  | true =>
    rw [Bool.and_eq_true] at hb
    obtain ⟨i, j, e1, e2, hi, q⟩ := h2 hb.1 hb.2
    have fo : ∀ δ' : En, eVar 0 (some (jarD A n c) :: δ') st = some (.ok (.ins A.C_Jar [("amounts", .tup (mapR n fun i => .int (c i)))]) st) := fun _ => rfl
    rw [e1, e2]
    simp only [Bool.not_true, if_false, Bool.false_eq_true, DL.w_next, goOn_nx]
    rw [w_seq]
    simp only [w_asg, w_var, List.getElem?_cons_zero, List.getElem?_cons_succ, w_gT2, List.set_cons_succ, List.set_cons_zero, goOn_nx, w_ret, w_or, w_op2, w_cmp, w_bD]
    have hix : i = ((i.toNat : Nat) : Int) := by omega
    by_cases hl : i < j
    · rw [if_pos (decide_eq_true hl), w_pure]
      rw [decide_eq_true hl, Bool.true_or] at q
      exact ⟨rfl, rfl, q⟩
    · rw [decide_eq_false hl, Bool.false_or] at q
      rw [if_neg (by simpa using hl)]
      simp only [w_and, w_op2, w_var, List.getElem?_cons_zero, List.getElem?_cons_succ, w_eqI, eqv_int, w_bD]
      by_cases he : i = j
      · rw [if_pos (decide_eq_true he)]
        rw [decide_eq_true he, Bool.true_and] at q
        rw [w_op2, w_op2, w_fld (fo _), w_var]
        dsimp only [List.getElem?_cons_zero, List.getElem?_cons_succ]
        rw [w_ixT (d := .int (c i.toNat)) (mapR_ati hi.1 hi.2), w_c, w_cmp]
        exact ⟨rfl, rfl, q⟩
      · rw [if_neg (by simpa using he), w_pure]
        rw [decide_eq_false he, Bool.false_and] at q
        exact ⟨rfl, rfl, q⟩
end
end Law
end
section
namespace DL
open PySem PySem.Spec L2
section
variable {st : Sto} {δ : En}
/-- a comprehension over a range with a test, that leaves the store as it is -/
theorem w_lcF {g : TgF} {tt : En → M Bool} {el : EF} {ok : Nat → Bool} {f x : Nat → D} {n : Nat} {P : List D → Sto → Prop}
    (step : ∀ i, i < n → W (g (x i) δ) st fun δ1 st1 => W (tt δ1) st1 fun b st2 => (b = ok i ∧ st2 = st) ∧ (b = true → W (el δ1) st fun y st3 => y = f i ∧ st3 = st))
    (h : P (((List.range n).filter ok).map f) st) : W (lcM g tt el δ (mapR n x)) st P := by
  have key : ∀ (l : List Nat) (Q : List D → Sto → Prop), (∀ i ∈ l, i < n) → Q ((l.filter ok).map f) st → W (lcM g tt el δ (l.map x)) st Q := by
    intro l
    induction l with
    | nil =>
      intro Q _ hQ
      rw [List.map_nil]
      unfold lcM
      rw [w_pure]
      exact hQ
    | cons i l ih =>
      intro Q hl hQ
      rw [List.map_cons]
      unfold lcM
      rw [w_bind]
      refine (step i (hl i (by simp))).mono fun δ1 st1 q => ?_
      rw [w_bind]
      refine q.mono fun b st2 q => ?_
      obtain ⟨⟨e1, e2⟩, q⟩ := q
      rw [e2]
      cases b with
      | false =>
        rw [if_neg (by simp)]
        rw [List.filter_cons, ← e1, if_neg (by simp)] at hQ
        exact ih Q (fun j hj => hl j (by simp [hj])) hQ
      | true =>
        rw [if_pos rfl, w_bind]
        rw [List.filter_cons, ← e1, if_pos rfl, List.map_cons] at hQ
        refine (q rfl).mono fun y st3 q3 => ?_
        rw [q3.1, q3.2, w_bind]
        refine ih _ (fun j hj => hl j (by simp [hj])) ?_
        rw [w_pure]
        exact hQ
  exact key (List.range n) P (fun i hi => List.mem_range.mp hi) h
end
end DL
namespace Law
open PySem PySem.Spec L2 DL
section
variable {A : As} {st : Sto}
def okR (c : Nat → Int) (a j : Nat) : Bool := decide ((if j = 0 then 1 else 0) < c a) && decide (0 < c (a + j))
def pairD (a j : Nat) : D := .tup [.int (a : Nat), .int ((a + j : Nat) : Int)]
def dueR (n : Nat) (c : Nat → Int) (a : Nat) : List D := ((List.range (n - a)).filter (okR c a)).map (pairD a)
def due (n : Nat) (c : Nat → Int) : List D := (List.range n).flatMap (dueR n c)
theorem dueR_len {n : Nat} {c : Nat → Int} {a : Nat} : (dueR n c a).length ≤ n := by
  unfold dueR
  rw [List.length_map]
  exact Nat.le_trans (List.length_filter_le _ _) (by rw [List.length_range]; omega)
theorem due_len {n m : Nat} {c : Nat → Int} : ((List.range m).flatMap (dueR n c)).length ≤ m * n := by
  induction m with
  | zero => simp
  | succ m ih =>
    rw [List.range_succ, List.flatMap_append, List.length_append, Nat.succ_mul]
    have := dueR_len (n := n) (c := c) (a := m)
    simp only [List.flatMap_cons, List.flatMap_nil, List.append_nil]
    omega
theorem canB_ok {n : Nat} {c : Nat → Int} {a j : Nat} (ha : a < n) (hj : a + j < n) : canB n c (a : Nat) ((a + j : Nat) : Int) = okR c a j := by
  unfold canB okR inB
  have e1 : decide (0 ≤ (a : Int) ∧ (a : Int) < n) = true := decide_eq_true (by omega)
  have e2 : decide (0 ≤ ((a + j : Nat) : Int) ∧ ((a + j : Nat) : Int) < n) = true := decide_eq_true (by omega)
  rw [e1, e2, Int.toNat_natCast, Int.toNat_natCast, Bool.true_and, Bool.true_and]
  by_cases h0 : j = 0
  · subst h0
    have l1 : ¬ (a : Int) < ((a + 0 : Nat) : Int) := by simp
    have l2 : (a : Int) = ((a + 0 : Nat) : Int) := by simp
    rw [decide_eq_false l1, decide_eq_true l2, Bool.false_or, Bool.true_and, if_pos rfl, Nat.add_zero]
    by_cases q : 0 < c a
    · rw [decide_eq_true q]; simp
    · have : ¬ 1 < c a := by omega
      rw [decide_eq_false q, decide_eq_false this]; rfl
  · have l1 : (a : Int) < ((a + j : Nat) : Int) := by omega
    rw [decide_eq_true l1, Bool.true_or, Bool.and_true, if_neg h0]
theorem can_int {n : Nat} {c : Nat → Int} {x y : Int} {P : D → Sto → Prop} (h : P (.bl (canB n c x y)) st) : W (g_Jar_can_draw A [jarD A n c, .tup [.int x, .int y]]) st P := by
  refine can_pair (bx := inB n c x) (b2 := inB n c y) (fun q => contains_int q) (fun q => contains_int q) (fun e => ?_) (fun e1 e2 => ⟨x, y, rfl, rfl, ?_, ?_⟩)
  · unfold canB at h
    rw [e, Bool.false_and] at h
    exact h
  · unfold inB at e1
    rw [Bool.and_eq_true] at e1
    exact of_decide_eq_true e1.1
  · unfold canB at h
    rw [e1, e2, Bool.true_and, Bool.true_and] at h
    exact h
end
end Law
end
section
namespace DL
open PySem PySem.Spec L2
section
variable {st : Sto} {δ : En}
theorem w_lc2 {most : Nat} {it it1 : ItF} {g g1 : TgF} {vs vs1 : List Nat} {tt tt1 : En → M Bool} {el : EF} {P : D → Sto → Prop} :
    W (eLc2 most it g vs tt it1 g1 vs1 tt1 el δ) st P = W (it δ) st fun xs st1 => xs.length * most ≤ sizeLine ∧ W (lc2M g tt (fun δ1 => (it1 δ1).bind fun ys st => if ys.length ≤ most then some (.ok ys st) else none) g1 vs1 tt1 el (wipeD δ vs) xs) st1 fun r st2 => P (.lst r) st2 := by
  unfold eLc2 eLc2M
  simp only [w_bind]
  congr; funext xs st1
  by_cases h : xs.length * most ≤ sizeLine
  · unfold W; simp only [h, if_true, true_and]; with_unfolding_all exact w_noer (P := fun r st2 => P (.lst r) st2)
  · unfold W; simp [h]
theorem w_lc2N {most : Nat} {it it1 : ItF} {g g1 : TgF} {vs vs1 : List Nat} {tt tt1 : En → M Bool} {el : EF} {P : D → Sto → Prop} :
    W (eLc2N most it g vs tt it1 g1 vs1 tt1 el δ) st P = W (it δ) st fun xs st1 => xs.length * most ≤ sizeLine ∧ W (lc2M g tt (fun δ1 => (it1 δ1).bind fun ys st => if ys.length ≤ most then some (.ok ys st) else none) g1 vs1 tt1 el (wipeD δ vs) xs) st1 fun r st2 => P (.obj st2.length) (st2 ++ [.lst r]) := by
  unfold eLc2N eLc2M
  simp only [w_bind]
  congr; funext xs st1
  by_cases h : xs.length * most ≤ sizeLine
  · unfold W; simp only [h, if_true, true_and]; with_unfolding_all exact w_noer (P := fun r st2 => P (.obj st2.length) (st2 ++ [.lst r]))
  · unfold W; simp [h]
theorem w_upto {most : Nat} {it1 : ItF} {P : List D → Sto → Prop} (h : W (it1 δ) st fun ys st1 => ys.length ≤ most ∧ P ys st1) : W ((it1 δ).bind fun ys st => if ys.length ≤ most then some (.ok ys st) else none) st P := by
  rw [w_bind]
  refine h.mono fun ys st1 q => ?_
  have e : (fun st => if ys.length ≤ most then some (R.ok ys st) else none : M (List D)) st1 = some (.ok ys st1) := if_pos q.1
  rw [W.eq e]
  exact q.2
end
end DL
namespace DL
open PySem PySem.Spec L2
section
variable {st : Sto} {δ : En}
theorem w_lc2R {it1 : ItF} {g g1 : TgF} {vs1 : List Nat} {tt1 : En → M Bool} {el : EF} {n : Nat} {x : Nat → D} {R : Nat → List D} {P : List D → Sto → Prop}
    (step : ∀ i, i < n → W (g (x i) δ) st fun δ1 st1 => W (it1 δ1) st1 fun ys st2 => W (lcM g1 tt1 el (wipeD δ1 vs1) ys) st2 fun r st3 => r = R i ∧ st3 = st) (h : P ((List.range n).flatMap R) st) : W (lc2M g eYes it1 g1 vs1 tt1 el δ (mapR n x)) st P := by
  have key : ∀ (l : List Nat) (Q : List D → Sto → Prop), (∀ i ∈ l, i < n) → Q (l.flatMap R) st → W (lc2M g eYes it1 g1 vs1 tt1 el δ (l.map x)) st Q := by
    intro l
    induction l with
    | nil =>
      intro Q _ hQ
      rw [List.map_nil]
      unfold lc2M
      rw [w_pure]
      exact hQ
    | cons i l ih =>
      intro Q hl hQ
      rw [List.map_cons]
      unfold lc2M
      rw [w_bind]
      refine (step i (hl i (by simp))).mono fun δ1 st1 q => ?_
      unfold eYes
      rw [w_bind, w_pure, if_pos rfl, w_bind]
      refine q.mono fun ys st2 q => ?_
      rw [w_bind]
      refine q.mono fun r st3 q => ?_
      rw [q.1, q.2, w_bind]
      rw [List.flatMap_cons] at hQ
      refine ih _ (fun j hj => hl j (by simp [hj])) ?_
      rw [w_pure]
      exact hQ
  exact key (List.range n) P (fun i hi => List.mem_range.mp hi) h
theorem w_meth {C : Addr} {m : Str} {g : List D → M D} {fo : EF} {f : En → M (List D)} {fs : List (Str × D)} {P : D → Sto → Prop} (ho : fo δ st = some (.ok (.ins C fs) st)) (hm : fs.lookup m = none) : W (eMeth C m g fo f δ) st P = W (f δ) st fun xs st1 => W (g (.ins C fs :: xs)) st1 P := by
  unfold eMeth
  rw [w_bind, W.eq ho, w_bind]
  have e : ofC C m (.ins C fs) st = some (.ok () st) := by
    unfold ofC asI
    dsimp only
    rw [if_pos ⟨rfl, hm⟩]
  rw [W.eq e, w_bind]
end
end DL
namespace Law
open PySem PySem.Spec L2 DL
section
variable {A : As} {st : Sto}
theorem lk_can {d : D} : ([("amounts", d)] : List (Str × D)).lookup ("can_draw" : Str) = none := by
  have k : (("can_draw" : Str) == "amounts") = false := by decide +kernel
  unfold List.lookup
  rw [k]
  rfl
theorem rng_mapR {lo : Int} {n : Nat} : rngD lo n = mapR n fun i => .int (lo + (i : Nat)) := rfl
end
end Law
end
section
namespace DL
open PySem PySem.Spec L2
section
variable {st : Sto} {δ : En}
theorem w_app {fo fe : EF} {j : Nat} {xs : List D} {P : D → Sto → Prop} (ho : fo δ st = some (.ok (.obj j) st)) (hc : st[j]? = some (.lst xs)) (hl : xs.length < sizeLine) (h : W (fe δ) st fun d st1 => st1 = st ∧ P .non (st.set j (.lst (xs ++ [d])))) : W (eApp fo fe δ) st P := by
  unfold eApp
  rw [w_bind, W.eq ho, w_bind]
  have e1 : isLO (.obj j) st = some (.ok () st) := by unfold isLO; simp only [hc]
  rw [W.eq e1, w_bind]
  refine h.mono fun d st1 q => ?_
  rw [q.1]
  have e2 : appD (.obj j) d st = some (.ok .non (st.set j (.lst (xs ++ [d])))) := by unfold appD; simp only [hc]; rw [if_pos hl]
  rw [W.eq e2]
  exact q.2
theorem w_intB {b : Bool} {P : D → Sto → Prop} : W (intD [.bl b]) st P = P (.int (if b then 1 else 0)) st := W.eq rfl
end
end DL
namespace Law
open PySem PySem.Spec L2 DL
section
variable {A : As} {st : Sto}
def accR (n : Nat) (c : Nat → Int) (a j : Nat) : List D := ((List.range a).flatMap (dueR n c)) ++ (((List.range j).filter (okR c a)).map (pairD a))
theorem accR_end {n : Nat} {c : Nat → Int} {a : Nat} : accR n c a (n - a) = accR n c (a + 1) 0 := by
  unfold accR
  rw [List.range_succ, List.flatMap_append]
  simp [dueR]
theorem accR_len {n : Nat} {c : Nat → Int} {a j : Nat} : (accR n c a j).length ≤ a * n + j := by
  unfold accR
  rw [List.length_append, List.length_map]
  have h1 := due_len (n := n) (m := a) (c := c)
  have h2 := List.length_filter_le (okR c a) (List.range j)
  rw [List.length_range] at h2
  omega
theorem accR_succ {n : Nat} {c : Nat → Int} {a j : Nat} : accR n c a (j + 1) = if okR c a j = true then accR n c a j ++ [pairD a j] else accR n c a j := by
  unfold accR
  rw [List.range_succ, List.filter_append, List.map_append]
  by_cases q : okR c a j = true
  · simp [q]
  · simp [q]
theorem belowDs_app {k : Nat} : ∀ {xs ys : List D}, belowDs k xs = true → belowDs k ys = true → belowDs k (xs ++ ys) = true
  | [], ys, _, h2 => h2
  | x :: xs, ys, h1, h2 => by
    show belowDs k (x :: (xs ++ ys)) = true
    unfold belowDs at h1 ⊢
    rw [Bool.and_eq_true] at h1 ⊢
    exact ⟨h1.1, belowDs_app h1.2 h2⟩
theorem below_pairs {k a : Nat} : ∀ l : List Nat, belowDs k (l.map (pairD a)) = true
  | [] => rfl
  | x :: xs => by show belowDs k (pairD a x :: xs.map (pairD a)) = true; unfold belowDs; rw [below_pairs xs]; rfl
theorem below_due {k n : Nat} {c : Nat → Int} : ∀ l : List Nat, belowDs k (l.flatMap (dueR n c)) = true
  | [] => rfl
  | x :: xs => by rw [List.flatMap_cons]; exact belowDs_app (below_pairs _) (below_due xs)
theorem below_acc {k n : Nat} {c : Nat → Int} {a j : Nat} : belowDs k (accR n c a j) = true := belowDs_app (below_due _) (below_pairs _)
theorem acc_tr {x y : List D} (h : belowDs (st.length + 1) y = true) : TrOk (st ++ [Cell.lst x]).length (st ++ [Cell.lst x]) (st ++ [Cell.lst y]) := by
  have k1 : belowC (st ++ [Cell.lst x]).length (.lst y) = true := by
    rw [List.length_append]
    exact h
  have k2 := (TrOk.rfl' (st := st ++ [Cell.lst x])).setb (j := st.length) k1
  have hset : (st ++ [Cell.lst x]).set st.length (.lst y) = st ++ [Cell.lst y] := by rw [List.set_append_right _ _ (Nat.le_refl _), Nat.sub_self]; rfl
  rw [hset] at k2
  exact k2
end
end Law
end
section
namespace DL
open PySem PySem.Spec L2
section
variable {st : Sto} {δ : En}
theorem w_listT {xs : List D} {P : D → Sto → Prop} : W (listD [.tup xs]) st P = P (.lst xs) st := W.eq rfl
end
end DL
namespace Law
open PySem PySem.Spec L2 DL
section
variable {A : As} {st : Sto}
theorem jar_counts {n : Nat} {c : Nat → Int} {P : D → Sto → Prop} (h : P (.lst (mapR n fun i => .int (c i))) st) : W (g_Jar_counts A [jarD A n c]) st P := by
  refine w_call0 rfl ?_
  rw [show startD 1 [jarD A n c] = [some (jarD A n c)] from rfl]
  unfold b_Jar_counts
  have fo : eVar 0 [some (jarD A n c)] st = some (.ok (.ins A.C_Jar [("amounts", .tup (mapR n fun i => .int (c i)))]) st) := rfl
  simp only [w_ret, w_eCall, w_cons, w_nil, w_fld fo, w_listT]
  exact ⟨trivial, by unfold belowD; exact below_ints, h⟩
/-- the odd values of can_draw -/
theorem can_odd {n : Nat} {c : Nat → Int} {P : D → Sto → Prop} (h : P (.bl false) st) : ∀ d ∈ ([.non, .int 0, .tup [.int 0], .lst [.int 0, .int 0], .tup [.int 0, .int 0, .int 0], .tup [.int (n : Nat), .int (n : Nat)], .tup [.int (-1), .int 0], .tup [.bl true, .bl true], .tup [.str "0", .int 0], .tup [.tup [.int 0], .int 0], .str "00"] : List D), W (g_Jar_can_draw A [jarD A n c, d]) st P := by
  intro d hd
  have nB : inB n c (n : Nat) = false := by unfold inB; rw [decide_eq_false (by omega)]; rfl
  have mB : inB n c (-1) = false := by unfold inB; rw [decide_eq_false (by omega)]; rfl
  have two : ∀ {x y : D}, (∀ {Q : D → Sto → Prop}, Q (.bl false) st → W (g_Jar_uucontainsuu A [jarD A n c, x]) st Q) → (∃ b, ∀ {Q : D → Sto → Prop}, Q (.bl b) st → W (g_Jar_uucontainsuu A [jarD A n c, y]) st Q) → W (g_Jar_can_draw A [jarD A n c, .tup [x, y]]) st P := fun {x y} h1 ⟨b, h2⟩ =>
    can_pair (bx := false) (b2 := b) h1 h2 (fun _ => h) (fun z => by cases z)
  simp only [List.mem_cons, List.not_mem_nil, or_false] at hd
  rcases hd with rfl | rfl | rfl | rfl | rfl | rfl | rfl | rfl | rfl | rfl | rfl
  · exact can_no (fun q => is_pair_no (t := "NoneType") (fun _ => rfl) k_nt q) h
  · exact can_no (fun q => is_pair_no (t := "int") (fun _ => rfl) k_it q) h
  · exact can_no (fun q => is_pair_tup q) h
  · exact can_no (fun q => is_pair_no (t := "list") (fun _ => rfl) k_lt q) h
  · exact can_no (fun q => is_pair_tup q) h
  · exact two (fun q => contains_int (by rw [nB]; exact q)) ⟨_, fun q => contains_int q⟩
  · exact two (fun q => contains_int (by rw [mB]; exact q)) ⟨_, fun q => contains_int q⟩
  · exact two (fun q => contains_no (fun q => is_integer_bl q) q) ⟨false, fun q => contains_no (fun q => is_integer_bl q) q⟩
  · exact two (fun q => contains_no (fun q => is_integer_str q) q) ⟨_, fun q => contains_int q⟩
  · exact two (fun q => contains_no (fun q => is_integer_tup q) q) ⟨_, fun q => contains_int q⟩
  · exact can_no (fun q => is_pair_no (t := "str") (fun _ => rfl) k_st q) h
end
end Law
end
section
namespace DL
open PySem PySem.Spec L2
section
variable {st : Sto} {δ : En}
/-! ### data that is equal to itself -/
def DatR (st : Sto) (k : Nat) (d : D) : Prop := ∃ p, datD st k d = some p ∧ PyData.eqv p p = true
theorem datR_all {k : Nat} : ∀ {l : List D}, (∀ d ∈ l, DatR st k d) → ∃ ps, allM (datD st k) l = some ps ∧ PyData.eqvAll ps ps = true
  | [], _ => ⟨[], rfl, by unfold PyData.eqvAll; rfl⟩
  | x :: xs, h => by
    obtain ⟨p, h1, h2⟩ := h x (List.mem_cons_self)
    obtain ⟨ps, h3, h4⟩ := datR_all (k := k) (l := xs) fun d hd => h d (List.mem_cons_of_mem _ hd)
    refine ⟨p :: ps, ?_, ?_⟩
    · unfold allM
      rw [h1, h3]
    · unfold PyData.eqvAll
      rw [h2, h4]; rfl
theorem datR_lst {k : Nat} {l : List D} (h : ∀ d ∈ l, DatR st k d) : DatR st (k + 1) (.lst l) := by
  obtain ⟨ps, h1, h2⟩ := datR_all h
  refine ⟨.list ps, ?_, ?_⟩
  · unfold datD
    rw [h1]
  · unfold PyData.eqv
    exact h2
theorem datR_tup {k : Nat} {l : List D} (h : ∀ d ∈ l, DatR st k d) : DatR st (k + 1) (.tup l) := by
  obtain ⟨ps, h1, h2⟩ := datR_all h
  refine ⟨.tuple ps, ?_, ?_⟩
  · unfold datD
    rw [h1]
  · unfold PyData.eqv
    exact h2
theorem datR_int {k : Nat} {i : Int} : DatR st k (.int i) := ⟨.int i, Law.datD_int, by rw [Law.eqv_int]; exact decide_eq_true rfl⟩
theorem mem_mapR {α : Type} {n : Nat} {f : Nat → α} {x : α} (h : x ∈ mapR n f) : ∃ i, i < n ∧ x = f i := by
  unfold mapR at h
  obtain ⟨i, h1, h2⟩ := List.mem_map.mp h
  exact ⟨i, List.mem_range.mp h1, h2.symm⟩
theorem datR_ints {k n : Nat} {c : Nat → Int} : DatR st (k + 1) (.lst (mapR n fun i => .int (c i))) := datR_lst fun d hd => by
  obtain ⟨i, _, rfl⟩ := mem_mapR hd
  exact datR_int
theorem w_neS {d : D} {P : D → Sto → Prop} (h : DatR st 8 d) (q : P (.bl false) st) : W (neD d d) st P := by
  obtain ⟨p, h1, h2⟩ := h
  have e : neD d d st = some (.ok (.bl false) st) := by
    unfold neD
    rw [h1]
    dsimp only
    rw [h2]
    rfl
  rw [W.eq e]
  exact q
theorem eqv_bool {a b : Bool} : PyData.eqv (.bool a) (.bool b) = (a == b) := by
  first
    | rfl
    | (unfold PyData.eqv; rfl)
    | (cases a <;> cases b <;> simp [PyData.eqv])
theorem w_neB {a b : Bool} {P : D → Sto → Prop} : W (neD (.bl a) (.bl b)) st P = P (.bl (!(a == b))) st := by
  have e : neD (.bl a) (.bl b) st = some (.ok (.bl (!(a == b))) st) := by
    unfold neD
    have e1 : ∀ x, datD st 8 (.bl x) = some (.bool x) := fun x => rfl
    rw [e1, e1]
    dsimp only
    rw [eqv_bool]
  exact W.eq e
theorem w_nisB {a b : Bool} {P : D → Sto → Prop} : W (nisD (.bl a) (.bl b)) st P = P (.bl (!(a == b))) st := by
  have e : nisD (.bl a) (.bl b) st = some (.ok (.bl (!(a == b))) st) := rfl
  exact W.eq e
/-! ### x in a list of data -/
theorem allM_any {k : Nat} {g : PyData → Bool} {q : D → Bool} : ∀ {l : List D}, (∀ d ∈ l, ∃ p, datD st k d = some p ∧ g p = q d) → ∃ ps, allM (datD st k) l = some ps ∧ ps.any g = l.any q
  | [], _ => ⟨[], rfl, rfl⟩
  | x :: xs, h => by
    obtain ⟨p, h1, h2⟩ := h x (List.mem_cons_self)
    obtain ⟨ps, h3, h4⟩ := allM_any (k := k) (g := g) (q := q) (l := xs) fun d hd => h d (List.mem_cons_of_mem _ hd)
    refine ⟨p :: ps, ?_, ?_⟩
    · unfold allM
      rw [h1, h3]
    · rw [List.any_cons, List.any_cons, h2, h4]
theorem w_in {x : D} {l : List D} {p : PyData} {q : D → Bool} {P : D → Sto → Prop} (hx : datD st 8 x = some p) (h : ∀ d ∈ l, ∃ y, datD st 7 d = some y ∧ PyData.eqv y p = q d) (k : P (.bl (l.any q)) st) : W (inD x (.lst l)) st P := by
  obtain ⟨ps, h1, h2⟩ := allM_any (g := fun y => PyData.eqv y p) h
  have e : inD x (.lst l) st = some (.ok (.bl (l.any q)) st) := by
    have e2 : datD st 8 (.lst l) = some (.list ps) := by
      unfold datD
      rw [h1]
    unfold inD
    rw [hx, e2]
    dsimp only
    rw [h2]
  rw [W.eq e]
  exact k
end
end DL
namespace Law
open PySem PySem.Spec L2 DL
section
variable {A : As} {st : Sto}
theorem datR_tab {k n : Nat} {t : Nat → Nat → Int} : DatR st (k + 2) (tabD n t) := by
  unfold tabD
  refine datR_lst fun d hd => ?_
  obtain ⟨i, _, rfl⟩ := mem_mapR hd
  exact datR_ints
theorem mem_due {n : Nat} {c : Nat → Int} {d : D} (h : d ∈ due n c) : ∃ a j, a < n ∧ a + j < n ∧ okR c a j = true ∧ d = pairD a j := by
  unfold due at h
  obtain ⟨a, h1, h2⟩ := List.mem_flatMap.mp h
  unfold dueR at h2
  obtain ⟨j, h3, h4⟩ := List.mem_map.mp h2
  obtain ⟨h5, h6⟩ := List.mem_filter.mp h3
  have ha := List.mem_range.mp h1
  have hj := List.mem_range.mp h5
  exact ⟨a, j, ha, by omega, h6, h4.symm⟩
theorem due_mem {n : Nat} {c : Nat → Int} {a j : Nat} (ha : a < n) (hj : a + j < n) (h : okR c a j = true) : pairD a j ∈ due n c := by
  unfold due
  refine List.mem_flatMap.mpr ⟨a, List.mem_range.mpr ha, ?_⟩
  unfold dueR
  exact List.mem_map.mpr ⟨j, List.mem_filter.mpr ⟨List.mem_range.mpr (by omega), h⟩, rfl⟩
theorem datR_due {n : Nat} {c : Nat → Int} : DatR st 8 (.lst (due n c)) := datR_lst fun d hd => by
  obtain ⟨a, j, _, _, _, rfl⟩ := mem_due hd
  refine datR_tup fun e he => ?_
  simp only [List.mem_cons, List.not_mem_nil, or_false] at he
  rcases he with rfl | rfl
  · exact datR_int
  · exact datR_int
def isPr (x y : Int) : D → Bool
  | .tup [.int a, .int b] => decide (a = x ∧ b = y)
  | _ => false
theorem dat_pair {k : Nat} {x y : Int} : datD st (k + 1) (.tup [.int x, .int y]) = some (.tuple [.int x, .int y]) := by
  unfold datD allM
  rw [datD_int]
  unfold allM
  rw [datD_int]
  rfl
theorem eqv_pair {x y a b : Int} : PyData.eqv (.tuple [.int a, .int b]) (.tuple [.int x, .int y]) = decide (a = x ∧ b = y) := by
  unfold PyData.eqv
  unfold PyData.eqvAll
  unfold PyData.eqvAll
  unfold PyData.eqvAll
  rw [eqv_int, eqv_int]
  by_cases h1 : a = x <;> by_cases h2 : b = y <;> simp [h1, h2]
theorem any_due {n a b : Nat} {c : Nat → Int} (ha : a < n) (hb : b < n) : (due n c).any (isPr (a : Nat) (b : Nat)) = canB n c (a : Nat) (b : Nat) := by
  by_cases hab : a ≤ b
  · obtain ⟨j, rfl⟩ := Nat.exists_eq_add_of_le hab
    rw [canB_ok ha hb]
    cases hk : okR c a j with
    | true =>
      rw [List.any_eq_true]
      refine ⟨_, due_mem ha hb hk, ?_⟩
      unfold pairD isPr
      exact decide_eq_true ⟨rfl, rfl⟩
    | false =>
      rw [List.any_eq_false]
      intro d hd
      obtain ⟨a', j', h1, h2, h3, rfl⟩ := mem_due hd
      unfold pairD isPr
      simp only [decide_eq_true_eq]
      intro z
      obtain ⟨z1, z2⟩ := z
      have e1 : a' = a := by omega
      have e2 : j' = j := by omega
      rw [e1, e2, hk] at h3
      cases h3
  · have e : canB n c (a : Nat) (b : Nat) = false := by
      unfold canB
      rw [decide_eq_false (show ¬ ((a : Nat) : Int) < (b : Nat) by omega), decide_eq_false (show ¬ ((a : Nat) : Int) = (b : Nat) by omega)]
      simp
    rw [e, List.any_eq_false]
    intro d hd
    obtain ⟨a', j', h1, h2, h3, rfl⟩ := mem_due hd
    unfold pairD isPr
    simp only [decide_eq_true_eq]
    intro z
    omega
theorem in_due {n a b : Nat} {c : Nat → Int} {P : D → Sto → Prop} (ha : a < n) (hb : b < n) (h : P (.bl (canB n c (a : Nat) (b : Nat))) st) : W (inD (.tup [.int (a : Nat), .int (b : Nat)]) (.lst (due n c))) st P := by
  refine w_in (q := isPr (a : Nat) (b : Nat)) dat_pair (fun d hd => ?_) (by rw [any_due ha hb]; exact h)
  obtain ⟨a', j', h1, h2, h3, rfl⟩ := mem_due hd
  exact ⟨_, dat_pair, eqv_pair⟩
end
end Law
end
section
namespace DL
open PySem PySem.Spec L2
section
variable {st : Sto} {δ : En}
theorem w_or2a {C : Addr} {fo f1 f2 : EF} {fs : List (Str × D)} {P : D → Sto → Prop} (ho : fo δ st = some (.ok (.ins C fs) st)) : W (eOr2 C fo f1 f2 δ) st P = W (f1 δ) st P := by
  have e : eOr2 C fo f1 f2 δ st = f1 δ st := by
    unfold eOr2
    rw [ho]
    dsimp only [asI]
    rw [if_pos rfl]
  unfold W
  rw [e]
theorem w_or2b {C C' : Addr} {fo f1 f2 : EF} {fs : List (Str × D)} {P : D → Sto → Prop} (ho : fo δ st = some (.ok (.ins C' fs) st)) (hC : C' ≠ C) : W (eOr2 C fo f1 f2 δ) st P = W (f2 δ) st P := by
  have e : eOr2 C fo f1 f2 δ st = f2 δ st := by
    unfold eOr2
    rw [ho]
    dsimp only [asI]
    rw [if_neg hC]
  unfold W
  rw [e]
theorem w_prop {C : Addr} {g : List D → M D} {fo : EF} {fs : List (Str × D)} {P : D → Sto → Prop} (ho : fo δ st = some (.ok (.ins C fs) st)) : W (eProp C g fo δ) st P = W (g [.ins C fs]) st P := by
  unfold eProp
  rw [w_bind, W.eq ho, w_bind]
  have e : ofC' C (.ins C fs) st = some (.ok () st) := by
    unfold ofC' asI
    dsimp only
    rw [if_pos rfl]
  rw [W.eq e, w_noer]
theorem w_eSub {C : Addr} {g : List D → M D} {fo fi : EF} {fs : List (Str × D)} {P : D → Sto → Prop} (ho : fo δ st = some (.ok (.ins C fs) st)) : W (eSub C g fo fi δ) st P = W (fi δ) st fun i st1 => W (g [.ins C fs, i]) st1 P := by
  unfold eSub
  rw [w_op2, W.eq ho]
  congr 1
  funext i st1
  rw [w_own]
theorem w_getLD {j : Nat} {xs : List D} {i : Int} {d : D} {P : D → Sto → Prop} (hc : st[j]? = some (.lst xs)) (hd : atI xs i = some d) : W (getLD (.obj j) (.int i)) st P = P d st := by
  have e : getLD (.obj j) (.int i) st = some (.ok d st) := by
    unfold getLD asL
    simp only [hc, hd]
  exact W.eq e
/-- xs[i] op= e, ints -/
theorem w_aug {f : Int → Int → Int} {fo fi fv : EF} {j n : Nat} {xs : List D} {k x y : Int} {P : Fl → Sto → Prop} (ho : fo δ st = some (.ok (.obj j) st)) (hi : W (fi δ) st fun d s => d = .int k ∧ s = st) (hc : st[j]? = some (.lst xs)) (hd : atI xs k = some (.int x)) (hn : ixN xs.length k = some n)
    (hv : fv δ st = some (.ok (.int y) st)) (h : P (.nx δ) (st.set j (.lst (xs.set n (.int (f x y)))))) : W (sAug f fo fi fv δ) st P := by
  unfold sAug
  rw [w_bind, W.eq ho, w_bind]
  refine hi.mono fun d s q => ?_
  rw [q.1, q.2, w_bind, w_getLD hc hd, w_bind, W.eq hv, w_bind]
  have e : augI f (.int x) (.int y) st = some (.ok (.int (f x y)) st) := rfl
  rw [W.eq e, w_bind, w_setD hc hn, w_pure]
  exact h
theorem w_mv {f : EF} {j : Nat} {xs : List D} {P : D → Sto → Prop} (hf : f δ st = some (.ok (.obj j) st)) (hc : st[j]? = some (.lst xs)) : W (eMv f δ) st P = P (.lst xs) (st.set j .dead) := by
  unfold eMv
  rw [w_bind, W.eq hf]
  have e : mvD (.obj j) st = some (.ok (.lst xs) (st.set j .dead)) := by
    unfold mvD
    simp only [hc]
  exact W.eq e
theorem w_listNT {xs : List D} {P : D → Sto → Prop} : W (listN [.tup xs]) st P = P (.obj st.length) (st ++ [.lst xs]) := W.eq rfl
theorem w_listNL {xs : List D} {P : D → Sto → Prop} : W (listN [.lst xs]) st P = P (.obj st.length) (st ++ [.lst xs]) := W.eq rfl
theorem w_neI' {i j : Int} {P : D → Sto → Prop} (hij : i = j) (h : P (.bl false) st) : W (neD (.int i) (.int j)) st P := by
  rw [w_neI, Law.eqv_int, decide_eq_true hij]
  exact h
theorem last_at {x : Cell} : (st ++ [x])[st.length]? = some x := by rw [List.getElem?_append_right (Nat.le_refl _), Nat.sub_self]; rfl
theorem last_set {x y : Cell} : (st ++ [x]).set st.length y = st ++ [y] := by rw [List.set_append_right _ _ (Nat.le_refl _), Nat.sub_self]; rfl
end
end DL
namespace Law
open PySem PySem.Spec L2 DL
section
variable {A : As} {st : Sto}
theorem jar_size {n : Nat} {c : Nat → Int} {P : D → Sto → Prop} (h : P (.int (n : Nat)) st) : W (g_Jar_size A [jarD A n c]) st P := by
  refine w_call0 rfl ?_
  rw [show startD 1 [jarD A n c] = [some (jarD A n c)] from rfl]
  unfold b_Jar_size
  have fo : eVar 0 [some (jarD A n c)] st = some (.ok (.ins A.C_Jar [("amounts", .tup (mapR n fun i => .int (c i)))]) st) := rfl
  simp only [w_ret, w_eCall, w_cons, w_nil, w_fld fo, w_lenT, mapR_len]
  exact ⟨trivial, rfl, h⟩
theorem table_size {n : Nat} {t : Nat → Nat → Int} {P : D → Sto → Prop} (h : P (.int (n : Nat)) st) : W (g_Table_size A [tableD A n t]) st P := by
  refine w_call0 rfl ?_
  rw [show startD 1 [tableD A n t] = [some (tableD A n t)] from rfl]
  unfold b_Table_size
  have fo : eVar 0 [some (tableD A n t)] st = some (.ok (.ins A.C_Table [("grid", .tup (mapR n fun a => .tup (mapR n fun b => .int (t a b))))]) st) := rfl
  simp only [w_ret, w_eCall, w_cons, w_nil, w_fld fo, w_lenT, mapR_len]
  exact ⟨trivial, rfl, h⟩
theorem same_size {n : Nat} {t : Nat → Nat → Int} {c : Nat → Int} {P : D → Sto → Prop} (hd : A.C_Jar ≠ A.C_Table) (h : P .non st) : W (g_need_same_size A [tableD A n t, jarD A n c]) st P := by
  refine w_call0 rfl ?_
  rw [show startD 2 [tableD A n t, jarD A n c] = [some (tableD A n t), some (jarD A n c)] from rfl]
  unfold b_need_same_size
  have f0 : eVar 0 [some (tableD A n t), some (jarD A n c)] st = some (.ok (.ins A.C_Table [("grid", gridD n t)]) st) := rfl
  have f1 : eVar 1 [some (tableD A n t), some (jarD A n c)] st = some (.ok (.ins A.C_Jar [("amounts", .tup (mapR n fun i => .int (c i)))]) st) := rfl
  rw [w_sif, w_eB, w_op2, w_or2b f0 (fun z => hd z.symm), w_prop f0]
  refine table_size ?_
  rw [w_prop f1]
  refine jar_size ?_
  refine w_neI' rfl ?_
  rw [w_bD, if_neg (by simp), DL.w_next]
  exact ⟨rfl, h⟩
theorem need_cols {n : Nat} {a b : Nat} {P : D → Sto → Prop} (ha : a < n) (hb : b < n) (h : P .non st) : W (g_need_colours A [.tup [.int (a : Nat), .int (b : Nat)], .int (n : Nat)]) st P := by
  refine w_call0 rfl ?_
  rw [show startD 3 [.tup [.int (a : Nat), .int (b : Nat)], D.int (n : Nat)] = [some (.tup [.int (a : Nat), .int (b : Nat)]), some (.int (n : Nat)), none] from rfl]
  unfold b_need_colours
  rw [w_for]
  simp only [w_iSq, w_var, List.getElem?_cons_zero, w_seqT]
  refine w_forM (fun i δ s => δ = [some (.tup [.int (a : Nat), .int (b : Nat)]), some (.int (n : Nat)), none] ∧ s = st) (fun i x δ s hx I => ?_) (fun δ s I => ?_) ⟨rfl, rfl⟩
  · obtain ⟨e1, e2⟩ := I
    obtain ⟨y, hy, rfl⟩ : ∃ y : Nat, y < n ∧ x = .int (y : Nat) := by
      have hm := List.mem_of_getElem? hx
      simp only [List.mem_cons, List.not_mem_nil, or_false] at hm
      rcases hm with rfl | rfl
      · exact ⟨a, ha, rfl⟩
      · exact ⟨b, hb, rfl⟩
    rw [e1, e2, w_gN]
    simp only [List.set_cons_succ, List.set_cons_zero]
    refine w_scope ?_
    simp only [w_sif, w_tnot, w_eTru, w_eCall, w_cons, w_nil, w_var, List.getElem?_cons_zero, List.getElem?_cons_succ]
    refine is_colour_int ?_
    rw [decide_eq_true (show (0 : Int) ≤ (y : Nat) ∧ ((y : Nat) : Int) < (n : Nat) by omega), w_truB, Bool.not_true, if_neg (by simp), DL.w_next]
    refine ⟨.rfl', ?_, rfl, List.take_length⟩
    rfl
  · rw [I.1, I.2]
    exact ⟨rfl, h⟩
theorem table_get {n : Nat} {t : Nat → Nat → Int} {a b : Nat} {P : D → Sto → Prop} (ha : a < n) (hb : b < n) (h : P (.int (t a b)) st) : W (g_Table_uugetitemuu A [tableD A n t, .tup [.int (a : Nat), .int (b : Nat)]]) st P := by
  refine w_call0 rfl ?_
  rw [show startD 2 [tableD A n t, .tup [.int (a : Nat), .int (b : Nat)]] = [some (tableD A n t), some (.tup [.int (a : Nat), .int (b : Nat)])] from rfl]
  unfold b_Table_uugetitemuu
  have fo : eVar 0 [some (tableD A n t), some (.tup [.int (a : Nat), .int (b : Nat)])] st = some (.ok (.ins A.C_Table [("grid", .tup (mapR n fun a => .tup (mapR n fun b => .int (t a b))))]) st) := rfl
  rw [w_seq]
  simp only [w_sif, w_tnot, w_eTru, w_eCall, w_cons, w_nil, w_var, List.getElem?_cons_zero, List.getElem?_cons_succ]
  refine is_pair_tup ?_
  simp only [List.length_cons, List.length_nil, decide_true, Nat.reduceAdd, w_truB, Bool.not_true, if_false, Bool.false_eq_true, DL.w_next, goOn_nx]
  rw [w_seq]
  simp only [w_expr, w_eCall, w_cons, w_nil, w_var, List.getElem?_cons_zero, List.getElem?_cons_succ, w_fld fo, w_lenT, mapR_len]
  refine need_cols ha hb ?_
  rw [goOn_nx, w_ret, w_op2, w_op2, w_fld fo, w_op2]
  simp only [w_var, w_c, List.getElem?_cons_zero, List.getElem?_cons_succ, w_op2]
  rw [w_ixT (d := .int (a : Nat)) rfl, w_ixT (mapR_at (n := n) (f := fun a => D.tup (mapR n fun b => .int (t a b))) ha), w_ixT (d := .int (b : Nat)) rfl, w_ixT (mapR_at (n := n) (f := fun b => D.int (t a b)) hb)]
  exact ⟨rfl, rfl, h⟩
end
end Law
end
section
namespace DL
open PySem PySem.Spec L2
section
variable {st : Sto} {δ : En}
theorem frz_last {l : List D} (h : belowDs st.length l = true) : frz st.length (st ++ [Cell.lst l]) 4 (.obj st.length) = some (.lst l) := by
  unfold frz
  rw [if_neg (by unfold belowD; simp)]
  dsimp only
  rw [last_at]
  have k : ∀ l' : List D, belowDs st.length l' = true → allM (frz st.length (st ++ [Cell.lst l]) 3) l' = some l' := by
    intro l'
    induction l' with
    | nil => intro _; rfl
    | cons x xs ih =>
      intro hb
      unfold belowDs at hb
      rw [Bool.and_eq_true] at hb
      unfold allM
      rw [frz_bel hb.1, ih hb.2]
  dsimp only
  rw [k l h]
theorem ints_set {n x : Nat} {c : Nat → Int} {v : Int} : (mapR n fun i => D.int (c i)).set x (.int v) = mapR n fun i => .int (if i = x then v else c i) := by
  rw [mapR_set]
  refine mapR_ext fun i _ => ?_
  by_cases h : i = x
  · rw [if_pos h, if_pos h]
  · rw [if_neg h, if_neg h]
end
end DL
namespace Law
open PySem PySem.Spec L2 DL
section
variable {A : As} {st : Sto}
def subAt (c : Nat → Int) (x : Nat) : Nat → Int := fun i => if i = x then c x - 1 else c i
def addAt (c : Nat → Int) (x : Nat) : Nat → Int := fun i => if i = x then c x + 1 else c i
def aft (c : Nat → Int) (a b r : Nat) : Nat → Int := addAt (subAt (subAt c a) b) r
theorem aft_nonneg {n a j r : Nat} {c : Nat → Int} (hc : ∀ i, i < n → 0 ≤ c i) (h : okR c a j = true) : ∀ i, i < n → 0 ≤ aft c a (a + j) r i := by
  intro i hi
  unfold okR at h
  rw [Bool.and_eq_true] at h
  have h1 := of_decide_eq_true h.1
  have h2 := of_decide_eq_true h.2
  have hi0 := hc i hi
  have key : ∀ i, i < n → 0 ≤ subAt (subAt c a) (a + j) i := by
    intro i hi
    have hi0 := hc i hi
    unfold subAt
    by_cases e1 : i = a + j
    · rw [if_pos e1]
      by_cases e2 : j = 0
      · subst e2
        rw [if_pos rfl] at h1
        rw [if_pos (by omega)]
        omega
      · rw [if_neg (by omega)]
        omega
    · rw [if_neg e1]
      by_cases e2 : i = a
      · rw [if_pos e2]
        split at h1 <;> omega
      · rw [if_neg e2]
        exact hi0
  unfold aft addAt
  by_cases e : i = r
  · rw [if_pos e, ← e]
    have := key i hi
    omega
  · rw [if_neg e]
    exact key i hi
theorem lk_cnt {d : D} : ([("amounts", d)] : List (Str × D)).lookup ("counts" : Str) = none := by
  have h : (("counts" : Str) == "amounts") = false := by decide
  simp [List.lookup, h]
theorem jar_countsN {n : Nat} {c : Nat → Int} {P : D → Sto → Prop} (h : P (.obj st.length) (st ++ [.lst (mapR n fun i => .int (c i))])) : W (g_Jar_countsN1 A [jarD A n c]) st P := by
  refine w_callN rfl ?_
  rw [show startD 1 [jarD A n c] = [some (jarD A n c)] from rfl]
  unfold b_Jar_countsN1
  have fo : eVar 0 [some (jarD A n c)] st = some (.ok (.ins A.C_Jar [("amounts", .tup (mapR n fun i => .int (c i)))]) st) := rfl
  simp only [w_ret, w_eCall, w_cons, w_nil, w_fld fo, w_listNT]
  exact h
theorem after_ok {n a j : Nat} {t : Nat → Nat → Int} {c : Nat → Int} {P : D → Sto → Prop} (hd : A.C_Jar ≠ A.C_Table) (T : Sym n t) (hn : n ≤ 8) (hc : ∀ i, i < n → 0 ≤ c i) (hj : a + j < n) (ho : okR c a j = true)
    (h : P (jarD A n (aft c a (a + j) (t a (a + j)).toNat)) st) : W (g_after A [tableD A n t, jarD A n c, pairD a j]) st P := by
  have ha : a < n := by omega
  obtain ⟨r, hr⟩ : ∃ r : Nat, t a (a + j) = (r : Nat) := ⟨(t a (a + j)).toNat, by have := T.lo a (a + j) ha hj; omega⟩
  have hrn : r < n := by have := T.hi a (a + j) ha hj; omega
  rw [hr, Int.toNat_natCast] at h
  refine w_callM rfl ?_
  rw [show startD 6 [tableD A n t, jarD A n c, pairD a j] = [some (tableD A n t), some (jarD A n c), some (pairD a j), none, none, none] from rfl]
  unfold b_after
  have f1 : ∀ δ' : En, eVar 1 (some (tableD A n t) :: some (jarD A n c) :: δ') st = some (.ok (.ins A.C_Jar [("amounts", .tup (mapR n fun i => .int (c i)))]) st) := fun _ => rfl
  rw [w_seq]
  simp only [w_expr, w_eCall, w_cons, w_nil, w_var, List.getElem?_cons_zero, List.getElem?_cons_succ]
  refine same_size hd ?_
  rw [goOn_nx, w_seq, w_sif, w_tnot, w_eTru, w_meth (f1 _) lk_can]
  simp only [w_cons, w_nil, w_var, List.getElem?_cons_zero, List.getElem?_cons_succ]
  unfold pairD
  refine can_int ?_
  rw [canB_ok ha hj, ho, w_truB, Bool.not_true, if_neg (by simp), DL.w_next, goOn_nx, w_seq]
  simp only [w_asg, w_var, List.getElem?_cons_zero, List.getElem?_cons_succ, w_gT2, List.set_cons_succ, List.set_cons_zero]
  rw [goOn_nx, w_seq, w_asg, w_meth (f1 _) lk_cnt, w_nil]
  refine jar_countsN ?_
  rw [w_gN]
  simp only [List.set_cons_succ, List.set_cons_zero]
  rw [goOn_nx, w_seq]
  refine w_aug (j := st.length) (n := a) (xs := mapR n fun i => .int (c i)) (k := (a : Nat)) (x := c a) (y := 1) rfl ?_ last_at (mapR_at ha) (by rw [mapR_len]; exact ixN_nat ha) rfl ?_
  · rw [w_var]; exact ⟨rfl, rfl⟩
  rw [last_set, ints_set, goOn_nx, w_seq]
  refine w_aug (j := st.length) (n := a + j) (xs := mapR n fun i => .int (subAt c a i)) (k := ((a + j : Nat) : Int)) (x := subAt c a (a + j)) (y := 1) rfl ?_ last_at (mapR_at hj) (by rw [mapR_len]; exact ixN_nat hj) rfl ?_
  · rw [w_var]; exact ⟨rfl, rfl⟩
  rw [last_set, ints_set, goOn_nx, w_seq]
  refine w_aug (j := st.length) (n := r) (xs := mapR n fun i => .int (subAt (subAt c a) (a + j) i)) (k := (r : Nat)) (x := subAt (subAt c a) (a + j) r) (y := 1) rfl ?_ last_at (mapR_at hrn) (by rw [mapR_len]; exact ixN_nat hrn) rfl ?_
  · have f0 : ∀ (δ' : En) (s : Sto), eVar 0 (some (tableD A n t) :: δ') s = some (.ok (.ins A.C_Table [("grid", gridD n t)]) s) := fun _ _ => rfl
    rw [w_eSub (f0 _ _)]
    simp only [w_tup, w_cons, w_nil, w_var, List.getElem?_cons_zero, List.getElem?_cons_succ]
    refine ⟨two_le, table_get ha hj ⟨by rw [hr], rfl⟩⟩
  rw [last_set, ints_set, goOn_nx, w_ret, w_eMake, w_cons, w_mv (j := st.length) rfl last_at, w_nil, last_set]
  refine jar_make (c := aft c a (a + j) r) hn (by omega) (aft_nonneg hc ho) ?_
  refine ⟨TrOk.app, _, frz_bel (by unfold jarD belowD belowFs; rw [show belowD st.length (.tup (mapR n fun i => .int (aft c a (a + j) r i))) = true by unfold belowD; exact below_ints]; rfl), ?_⟩
  rw [List.take_left]
  exact h
end
end Law
end
section
namespace DL
open PySem PySem.Spec L2
section
variable {st : Sto} {δ : En}
theorem w_appW {fo fe : EF} {P : D → Sto → Prop} (h : W (fo δ) st fun o st1 => ∃ j xs, o = .obj j ∧ st1[j]? = some (.lst xs) ∧ W (fe δ) st1 fun d st2 => st2 = st1 ∧ xs.length < sizeLine ∧ P .non (st1.set j (.lst (xs ++ [d])))) : W (eApp fo fe δ) st P := by
  unfold eApp
  rw [w_bind]
  refine h.mono fun o st1 q => ?_
  obtain ⟨j, xs, rfl, hc, q⟩ := q
  rw [w_bind]
  have e1 : isLO (.obj j) st1 = some (.ok () st1) := by unfold isLO; simp only [hc]
  rw [W.eq e1, w_bind]
  refine q.mono fun d st2 q => ?_
  obtain ⟨q1, hl, q⟩ := q
  rw [q1]
  have e2 : appD (.obj j) d st1 = some (.ok .non (st1.set j (.lst (xs ++ [d])))) := by unfold appD; simp only [hc]; rw [if_pos hl]
  rw [W.eq e2]
  exact q
theorem w_neg {f : EF} {P : D → Sto → Prop} : W (eNeg f δ) st P = W (f δ) st fun d st1 => W (negD d) st1 P := by unfold eNeg; rw [w_bind]
theorem w_negI {i : Int} {P : D → Sto → Prop} : W (negD (.int i)) st P = P (.int (-i)) st := W.eq rfl
theorem w_methW {C : Addr} {m : Str} {g : List D → M D} {fo : EF} {f : En → M (List D)} {P : D → Sto → Prop} (h : W (fo δ) st fun o st1 => ∃ fs, o = .ins C fs ∧ fs.lookup m = none ∧ W (f δ) st1 fun xs st2 => W (g (o :: xs)) st2 P) : W (eMeth C m g fo f δ) st P := by
  unfold eMeth
  rw [w_bind]
  refine h.mono fun o st1 q => ?_
  obtain ⟨fs, rfl, hm, q⟩ := q
  rw [w_bind]
  have e : ofC C m (.ins C fs) st1 = some (.ok () st1) := by
    unfold ofC asI
    dsimp only
    rw [if_pos ⟨rfl, hm⟩]
  rw [W.eq e, w_bind]
  exact q
theorem w_propW {C : Addr} {g : List D → M D} {fo : EF} {P : D → Sto → Prop} (h : W (fo δ) st fun o st1 => ∃ fs, o = .ins C fs ∧ W (g [o]) st1 P) : W (eProp C g fo δ) st P := by
  unfold eProp
  rw [w_bind]
  refine h.mono fun o st1 q => ?_
  obtain ⟨fs, rfl, q⟩ := q
  rw [w_bind]
  have e : ofC' C (.ins C fs) st1 = some (.ok () st1) := by
    unfold ofC' asI
    dsimp only
    rw [if_pos rfl]
  rw [W.eq e, w_noer]
  exact q
theorem atI_last {α : Type} {n : Nat} {f : Nat → α} : atI (mapR (n + 1) f) (-1) = some (f n) := by
  unfold atI ixN
  rw [mapR_len, if_neg (by omega), if_pos (by omega)]
  have e : (-1 + ((n + 1 : Nat) : Int)).toNat = n := by omega
  rw [e]
  exact mapR_get (by omega)
theorem belowDs_mapR {k n : Nat} {f : Nat → D} (h : ∀ i, i < n → belowD k (f i) = true) : belowDs k (mapR n f) = true := Law.belowDs_map h
end
end DL
namespace Law
open PySem PySem.Spec L2 DL
section
variable {A : As} {st : Sto}
theorem below_jar {k n : Nat} {c : Nat → Int} : belowD k (jarD A n c) = true := by
  unfold jarD belowD belowFs
  rw [show belowD k (.tup (mapR n fun i => .int (c i))) = true by unfold belowD; exact below_ints]
  rfl
/-- a way all of whose draws can be made -/
theorem walked_ok {n m : Nat} {t : Nat → Nat → Int} {ks : Nat → Nat → Int} {ds : Nat → D} {P : D → Sto → Prop} (hm : m ≤ 1000) (flat : ∀ k i, i < m → belowD k (ds i) = true)
    (can : ∀ i, i < m → ∀ (s : Sto) (Q : D → Sto → Prop), Q (.bl true) s → W (g_Jar_can_draw A [jarD A n (ks i), ds i]) s Q)
    (aft : ∀ i, i < m → ∀ (s : Sto) (Q : D → Sto → Prop), Q (jarD A n (ks (i + 1))) s → W (g_after A [tableD A n t, jarD A n (ks i), ds i]) s Q)
    (h : P (.lst (mapR (m + 1) fun i => jarD A n (ks i))) st) : W (g_walked A [tableD A n t, jarD A n (ks 0), .lst (mapR m ds)]) st P := by
  refine w_callM rfl ?_
  rw [show startD 5 [tableD A n t, jarD A n (ks 0), .lst (mapR m ds)] = [some (tableD A n t), some (jarD A n (ks 0)), some (.lst (mapR m ds)), none, none] from rfl]
  unfold b_walked
  rw [w_seq]
  simp only [w_asg, w_newL, w_cons, w_nil, w_var, List.getElem?_cons_zero, List.getElem?_cons_succ, w_gN, List.set_cons_succ, List.set_cons_zero]
  refine ⟨line_le (n := 1) (by decide), ?_⟩
  rw [goOn_nx, w_seq, w_for]
  simp only [w_iSq, w_var, List.getElem?_cons_zero, List.getElem?_cons_succ, w_seqL]
  have blst : ∀ k l, belowDs k (mapR l fun i => jarD A n (ks i)) = true := fun k l => belowDs_map fun i _ => below_jar
  refine w_forM (fun i δ s => δ = [some (tableD A n t), some (jarD A n (ks 0)), some (.lst (mapR m ds)), some (.obj st.length), none] ∧ s = st ++ [.lst (mapR (i + 1) fun i => jarD A n (ks i))]) (fun i x δ s hx I => ?_) (fun δ s I => ?_) ⟨rfl, rfl⟩
  · obtain ⟨e1, e2⟩ := I
    have hi : i < m := by
      rcases Nat.lt_or_ge i m with q | q
      · exact q
      · rw [List.getElem?_eq_none (by rw [mapR_len]; exact q)] at hx; cases hx
    rw [mapR_get hi] at hx
    rw [← Option.some.inj hx, e1, e2, w_gN]
    simp only [List.set_cons_succ, List.set_cons_zero]
    refine w_scope ?_
    have v3 : ∀ {Q : D → Sto → Prop}, W (eOp2 ixD (eVar 3) (eNeg (eC (.int 1))) [some (tableD A n t), some (jarD A n (ks 0)), some (.lst (mapR m ds)), some (.obj st.length), some (ds i)]) (st ++ [.lst (mapR (i + 1) fun i => jarD A n (ks i))]) Q = Q (jarD A n (ks i)) (st ++ [.lst (mapR (i + 1) fun i => jarD A n (ks i))]) := fun {Q} => by
      rw [w_op2, w_var]
      dsimp only [List.getElem?_cons_zero, List.getElem?_cons_succ]
      rw [w_neg, w_c, w_negI, w_ixO last_at atI_last]
    rw [w_seq, w_sif, w_tnot, w_eTru]
    refine w_methW ?_
    rw [v3]
    refine ⟨_, rfl, lk_can, ?_⟩
    simp only [w_cons, w_nil, w_var, List.getElem?_cons_zero, List.getElem?_cons_succ]
    refine can i hi _ _ ?_
    rw [w_truB, Bool.not_true, if_neg (by simp), DL.w_next, goOn_nx, w_expr]
    refine w_appW ?_
    simp only [w_var, List.getElem?_cons_zero, List.getElem?_cons_succ]
    refine ⟨_, _, rfl, last_at, ?_⟩
    rw [w_eCall, w_cons, w_var]
    dsimp only [List.getElem?_cons_zero, List.getElem?_cons_succ]
    rw [w_cons, v3, w_cons, w_var]
    dsimp only [List.getElem?_cons_zero, List.getElem?_cons_succ]
    rw [w_nil]
    refine aft i hi _ _ ?_
    refine ⟨rfl, ?_, ?_⟩
    · rw [mapR_len]
      exact Nat.lt_of_le_of_lt (show i + 1 ≤ 1001 by omega) (by decide)
    · rw [last_set, ← mapR_succ (f := fun i => jarD A n (ks i))]
      refine ⟨acc_tr (blst _ _), ?_, rfl, ?_⟩
      · have b0 : ∀ k, belowD k (tableD A n t) = true := fun k => by unfold tableD belowD belowFs; rw [below_grid]; rfl
        have b2 : ∀ k, belowD k (.lst (mapR m ds)) = true := fun k => by unfold belowD; exact belowDs_map fun i hi => flat k i hi
        have b3 : belowD (st ++ [Cell.lst (mapR (i + 1) fun i => jarD A n (ks i))]).length (.obj st.length) = true := by unfold belowD; exact decide_eq_true (by simp)
        simp only [unsetAll, belowE, List.set_cons_succ, List.set_cons_zero, List.all_cons, List.all_nil, belowO, b0, below_jar, b2, b3, Bool.and_true, Bool.and_self]
      · rw [List.take_of_length_le (by simp)]
  · obtain ⟨e1, e2⟩ := I
    rw [mapR_len] at e2
    rw [e1, e2, goOn_nx, w_ret, w_var]
    dsimp only [List.getElem?_cons_zero, List.getElem?_cons_succ]
    refine ⟨.app, _, frz_last (blst _ _), ?_⟩
    rw [List.take_left]
    exact h
/-! ### counts of beans -/
def cnt (l : List Nat) : Nat → Int := fun i => (l.count i : Nat)
def one (i a : Nat) : Int := if i = a then 1 else 0
theorem cnt_cons {a : Nat} {l : List Nat} {i : Nat} : cnt (a :: l) i = cnt l i + one i a := by
  unfold cnt one
  rw [List.count_cons]
  by_cases h : i = a
  · subst h; simp
  · rw [if_neg h, if_neg (by simpa using fun z => h z.symm)]; simp
theorem aft_pt {c : Nat → Int} {a b r i : Nat} : aft c a b r i = c i - one i a - one i b + one i r := by
  have s : ∀ (c : Nat → Int) (x i : Nat), subAt c x i = c i - one i x := fun c x i => by
    unfold subAt one
    by_cases h : i = x
    · rw [if_pos h, if_pos h, h]
    · rw [if_neg h, if_neg h]; omega
  have p : ∀ (c : Nat → Int) (x i : Nat), addAt c x i = c i + one i x := fun c x i => by
    unfold addAt one
    by_cases h : i = x
    · rw [if_pos h, if_pos h, h]
    · rw [if_neg h, if_neg h]; omega
  unfold aft
  rw [p, s, s]
theorem cnt_nonneg {l : List Nat} {i : Nat} : 0 ≤ cnt l i := Int.natCast_nonneg _
theorem one_nonneg {i a : Nat} : 0 ≤ one i a := by unfold one; split <;> decide
theorem one_self {a : Nat} : one a a = 1 := if_pos rfl
/-- the draw of two beans -/
def dr (a b : Nat) : D := pairD (min a b) (max a b - min a b)
theorem dr_comm {a b : Nat} : dr a b = dr b a := by unfold dr; rw [Nat.min_comm, Nat.max_comm]
theorem dr_le {a b : Nat} (h : a ≤ b) : dr a b = pairD a (b - a) := by unfold dr; rw [Nat.min_eq_left h, Nat.max_eq_right h]
theorem dr_below {k a b : Nat} : belowD k (dr a b) = true := rfl
theorem ok_cnt {a b : Nat} {l : List Nat} (h : a ≤ b) : okR (cnt (a :: b :: l)) a (b - a) = true := by
  unfold okR
  have e : a + (b - a) = b := by omega
  rw [e, Bool.and_eq_true]
  have n1 := cnt_nonneg (l := l) (i := a)
  have n2 := cnt_nonneg (l := l) (i := b)
  have o1 := one_nonneg (i := a) (a := b)
  have o2 := one_nonneg (i := b) (a := a)
  refine ⟨decide_eq_true ?_, decide_eq_true ?_⟩
  · rw [cnt_cons, cnt_cons, one_self]
    by_cases z : b - a = 0
    · have : a = b := by omega
      subst this
      rw [if_pos z, one_self]; omega
    · rw [if_neg z]; omega
  · rw [cnt_cons, cnt_cons, one_self]; omega
theorem cnt_swap {a b : Nat} {l : List Nat} : cnt (a :: b :: l) = cnt (b :: a :: l) := by
  funext i
  rw [cnt_cons, cnt_cons, cnt_cons, cnt_cons]; omega
theorem after_cnt {n a b : Nat} {l : List Nat} {t : Nat → Nat → Int} {P : D → Sto → Prop} (hd : A.C_Jar ≠ A.C_Table) (T : Sym n t) (hn : n ≤ 8) (ha : a < n) (hb : b < n) (h : P (jarD A n (cnt ((t a b).toNat :: l))) st) :
    W (g_after A [tableD A n t, jarD A n (cnt (a :: b :: l)), dr a b]) st P := by
  have key : ∀ a b : Nat, a ≤ b → b < n → P (jarD A n (cnt ((t a b).toNat :: l))) st → W (g_after A [tableD A n t, jarD A n (cnt (a :: b :: l)), dr a b]) st P := by
    intro a b hab hb h
    rw [dr_le hab]
    have e : a + (b - a) = b := by omega
    refine after_ok hd T hn (fun i _ => cnt_nonneg) (by omega) (ok_cnt hab) ?_
    rw [e]
    have e2 : aft (cnt (a :: b :: l)) a b (t a b).toNat = cnt ((t a b).toNat :: l) := by
      funext i
      rw [aft_pt, cnt_cons, cnt_cons, cnt_cons]; omega
    rw [e2]
    exact h
  rcases Nat.le_total a b with q | q
  · exact key a b q hb h
  · rw [dr_comm, cnt_swap]
    refine key b a q ha ?_
    rw [T.sym b a hb ha]
    exact h
theorem can_cnt {n a b : Nat} {l : List Nat} {P : D → Sto → Prop} (ha : a < n) (hb : b < n) (h : P (.bl true) st) : W (g_Jar_can_draw A [jarD A n (cnt (a :: b :: l)), dr a b]) st P := by
  have key : ∀ a b : Nat, a ≤ b → b < n → W (g_Jar_can_draw A [jarD A n (cnt (a :: b :: l)), dr a b]) st P := by
    intro a b hab hb
    rw [dr_le hab]
    unfold pairD
    refine can_int ?_
    rw [canB_ok (by omega) (by omega), ok_cnt hab]
    exact h
  rcases Nat.le_total a b with q | q
  · exact key a b q hb
  · rw [dr_comm, cnt_swap]
    exact key b a q ha
theorem tn {n : Nat} {t : Nat → Nat → Int} (T : Sym n t) {a b : Nat} (ha : a < n) (hb : b < n) : (t a b).toNat < n ∧ t a b = ((t a b).toNat : Nat) := by
  have := T.lo a b ha hb
  have := T.hi a b ha hb
  omega
/-- two draws of three beans -/
theorem walked_two {n a b x y z : Nat} {t : Nat → Nat → Int} {P : D → Sto → Prop} (hd : A.C_Jar ≠ A.C_Table) (T : Sym n t) (hn : n ≤ 8) (ha : a < n) (hb : b < n) (hx : x < n) (hy : y < n) (hxy : cnt [(t a b).toNat, z] = cnt [x, y])
    (h : P (.lst [jarD A n (cnt [a, b, z]), jarD A n (cnt [x, y]), jarD A n (cnt [(t x y).toNat])]) st) : W (g_walked A [tableD A n t, jarD A n (cnt [a, b, z]), .lst [dr a b, dr x y]]) st P := by
  have e1 : ([dr a b, dr x y] : List D) = mapR 2 fun i => if i = 0 then dr a b else dr x y := rfl
  rw [e1]
  refine walked_ok (m := 2) (ks := fun i => if i = 0 then cnt [a, b, z] else if i = 1 then cnt [x, y] else cnt [(t x y).toNat]) (by decide) (fun k i _ => by (try dsimp only); split <;> exact dr_below) (fun i hi s Q q => ?_) (fun i hi s Q q => ?_) h
  · have : i = 0 ∨ i = 1 := by omega
    rcases this with rfl | rfl
    · exact can_cnt ha hb q
    · exact can_cnt (l := []) hx hy q
  · have : i = 0 ∨ i = 1 := by omega
    rcases this with rfl | rfl
    · refine after_cnt hd T hn ha hb ?_
      rw [hxy]
      exact q
    · exact after_cnt (l := []) hd T hn hx hy q
end
end Law
end
section
namespace DL
open PySem PySem.Spec L2
section
variable {st : Sto} {δ : En}
theorem ints_mapR {n : Nat} {c : Nat → Int} : (mapR n fun i => D.int (c i)) = (mapR n c).map D.int := by unfold mapR; rw [List.map_map]; rfl
theorem w_sumT {n : Nat} {c : Nat → Int} {P : D → Sto → Prop} : W (sumA [.tup (mapR n fun i => .int (c i))]) st P = P (.int (mapR n c).sum) st := by
  refine W.eq ?_
  unfold sumA asA asT
  dsimp only
  rw [ints_mapR, asInts_map]
theorem tr_mapR {n : Nat} {c : Nat → Int} : allM tr1 (mapR n fun i => D.int (c i)) = some (mapR n fun i => c i != 0) := by
  unfold mapR
  exact allM_map fun i _ => rfl
theorem w_anyT {n : Nat} {c : Nat → Int} {P : D → Sto → Prop} : W (anyA [.tup (mapR n fun i => .int (c i))]) st P = P (.bl ((mapR n fun i => c i != 0).any id)) st := by
  refine W.eq ?_
  unfold anyA asA asT
  dsimp only
  rw [tr_mapR]
theorem w_truO {C : Addr} {g : List D → M D} {fo : EF} {fs : List (Str × D)} {P : Bool → Sto → Prop} (ho : fo δ st = some (.ok (.ins C fs) st)) : W (eTruO C g fo δ) st P = W (g [.ins C fs]) st fun d st1 => W (bD d) st1 P := by
  unfold eTruO
  rw [w_bind, W.eq ho, w_bind, w_own]
theorem w_makeL {i : Nat} {C : Addr} {g : List D → M D} {fa : En → M (List D)} {P : D → Sto → Prop} (h : δ[i]? = some (some (.fn C))) : W (eMakeL i C g fa δ) st P = W (eMake C g fa δ) st P := by
  have e : eMakeL i C g fa δ st = eMake C g fa δ st := by
    unfold eMakeL
    rw [h]
    exact if_pos rfl
  unfold W
  rw [e]
theorem rep_flat {α : Type} {n : Nat} {x : α} : (List.replicate n [x]).flatten = mapR n fun _ => x := by
  induction n with
  | zero => rfl
  | succ n ih =>
    rw [mapR_succ, ← ih, List.replicate_succ', List.flatten_append]
    rfl
theorem w_mulN {n : Nat} {x : D} {P : D → Sto → Prop} (hn : n ≤ 1000) : W (mulN (.lst [x]) (.int (n : Nat))) st P = P (.obj st.length) (st ++ [.lst (mapR n fun _ => x)]) := by
  have big : (1000 : Int) < 2 ^ 63 := by decide
  refine W.eq ?_
  unfold mulN asM
  dsimp only
  rw [if_pos ⟨Int.le_trans (by decide) (Int.natCast_nonneg n), Int.lt_of_le_of_lt (Int.ofNat_le.mpr hn) big, by
    rw [Int.toNat_natCast, List.length_singleton, Nat.one_mul]
    exact Nat.le_trans hn (by decide)⟩, Int.toNat_natCast, rep_flat]
theorem zip_mapR {n : Nat} {f g : Nat → D} : zip2D (mapR n f) (mapR n g) = mapR n fun i => .tup [f i, g i] := by
  unfold zip2D mapR
  rw [List.zip_map', List.map_map]
  rfl
theorem w_iZpA {f : En → M (List D)} {P : List D → Sto → Prop} : W (iZpA f δ) st P = W (f δ) st fun xs st1 => W (zpA xs) st1 P := by unfold iZpA; rw [w_bind]
theorem w_zpT {xs ys : List D} {P : List D → Sto → Prop} : W (zpA [.tup xs, .tup ys]) st P = P (zip2D xs ys) st := W.eq rfl
theorem w_eListR1 {f : EF} {P : D → Sto → Prop} : W (eListR1 f δ) st P = W (f δ) st fun d st1 => W (rngL d) st1 P := by unfold eListR1; rw [w_bind]
theorem w_rngL {n : Nat} {P : D → Sto → Prop} (hn : n ≤ 1000) : W (rngL (.int (n : Nat))) st P = P (.lst (rngD 0 n)) st := by
  refine W.eq ?_
  unfold rngL
  dsimp only
  rw [if_pos ⟨Int.le_trans (by decide) (Int.natCast_nonneg n), by omega⟩, Int.toNat_natCast]
theorem w_isN {P : D → Sto → Prop} : W (isD .non .non) st P = P (.bl true) st := W.eq rfl
theorem w_isT {xs : List D} {P : D → Sto → Prop} : W (isD (.tup xs) .non) st P = P (.bl false) st := W.eq rfl
theorem w_nisT {xs : List D} {P : D → Sto → Prop} : W (nisD (.tup xs) .non) st P = P (.bl true) st := W.eq rfl
theorem w_gT3 {i j l : Nat} {x y z : D} {P : En → Sto → Prop} : W (gT [gN i, gN j, gN l] (.tup [x, y, z]) δ) st P = P (((δ.set i (some x)).set j (some y)).set l (some z)) st := W.eq rfl
theorem w_par2 {i j : Nat} {f : En → M (List D)} {P : Fl → Sto → Prop} (h : W (f δ) st fun ds st1 => ∃ x y, ds = [x, y] ∧ P (.nx ((δ.set i (some x)).set j (some y))) st1) : W (sPar2 i j f δ) st P := by
  unfold sPar2
  rw [w_bind]
  refine h.mono fun ds st1 q => ?_
  obtain ⟨x, y, rfl, q⟩ := q
  dsimp only
  rw [w_pure]
  exact q
theorem w_eCM {C : Addr} {g : List D → M D} {f : En → M (List D)} {P : D → Sto → Prop} : W (eCM C g f δ) st P = W (f δ) st fun xs st1 => W (g (.fn C :: xs)) st1 P := by unfold eCM; rw [w_bind]
end
end DL
namespace Law
open PySem PySem.Spec L2 DL
section
variable {A : As} {st : Sto}
theorem sum_zero {r : Nat} : ∀ n, n ≤ r → (mapR n fun i => one i r).sum = 0
  | 0, _ => rfl
  | n + 1, h => by
    rw [mapR_succ, List.sum_append, sum_zero n (by omega)]
    unfold one
    rw [if_neg (by omega)]
    rfl
theorem sum_one {r m : Nat} : (mapR (r + 1 + m) fun i => one i r).sum = 1 := by
  induction m with
  | zero =>
    rw [Nat.add_zero, mapR_succ, List.sum_append, sum_zero r (Nat.le_refl _), one_self]
    rfl
  | succ m ih =>
    rw [show r + 1 + (m + 1) = (r + 1 + m) + 1 from rfl, mapR_succ, List.sum_append, ih]
    unfold one
    rw [if_neg (by omega)]
    rfl
theorem sum_add {f g : Nat → Int} : ∀ n, (mapR n fun i => f i + g i).sum = (mapR n f).sum + (mapR n g).sum
  | 0 => rfl
  | n + 1 => by
    rw [mapR_succ, mapR_succ, mapR_succ, List.sum_append, List.sum_append, List.sum_append, sum_add n]
    simp only [List.sum_cons, List.sum_nil]
    omega
theorem sum_cnt {n : Nat} : ∀ {l : List Nat}, (∀ x ∈ l, x < n) → (mapR n (cnt l)).sum = (l.length : Nat)
  | [], _ => by
    have z : ∀ m, (mapR m (cnt [])).sum = 0 := fun m => by
      induction m with
      | zero => rfl
      | succ m ih => rw [mapR_succ, List.sum_append, ih]; rfl
    rw [z]; rfl
  | a :: l, h => by
    have e : cnt (a :: l) = fun i => cnt l i + one i a := by funext i; exact cnt_cons
    obtain ⟨m, hm⟩ := Nat.exists_eq_add_of_lt (h a (List.mem_cons_self))
    have e2 : n = a + 1 + m := by omega
    have e3 : (mapR n fun i => one i a).sum = 1 := by rw [e2]; exact sum_one
    rw [e, sum_add, sum_cnt (l := l) (fun x hx => h x (List.mem_cons_of_mem _ hx)), e3, List.length_cons]
    omega
theorem jar_total {n : Nat} {l : List Nat} {P : D → Sto → Prop} (hl : ∀ x ∈ l, x < n) (h : P (.int (l.length : Nat)) st) : W (g_Jar_total A [jarD A n (cnt l)]) st P := by
  refine w_call0 rfl ?_
  rw [show startD 1 [jarD A n (cnt l)] = [some (jarD A n (cnt l))] from rfl]
  unfold b_Jar_total
  have fo : eVar 0 [some (jarD A n (cnt l))] st = some (.ok (.ins A.C_Jar [("amounts", .tup (mapR n fun i => .int (cnt l i)))]) st) := rfl
  simp only [w_ret, w_eCall, w_cons, w_nil, w_fld fo, w_sumT]
  rw [show (mapR n fun i => cnt l i) = mapR n (cnt l) from rfl, sum_cnt hl]
  exact ⟨trivial, rfl, h⟩
theorem one_filter {r : Nat} : ∀ m, (List.range (r + 1 + m)).filter (fun i => decide (0 < cnt [r] i)) = [r] := by
  have c : ∀ i, cnt [r] i = one i r := fun i => by
    rw [cnt_cons]
    unfold cnt
    simp
  have low : ∀ k, k ≤ r → (List.range k).filter (fun i => decide (0 < cnt [r] i)) = [] := by
    intro k
    induction k with
    | zero => intro _; rfl
    | succ k ih =>
      intro hk
      rw [List.range_succ, List.filter_append, ih (by omega)]
      rw [List.filter_cons, c]
      unfold one
      rw [if_neg (show ¬ k = r by omega)]
      rfl
  intro m
  induction m with
  | zero =>
    rw [Nat.add_zero, List.range_succ, List.filter_append, low r (Nat.le_refl _)]
    rw [List.filter_cons, c, one_self]
    rfl
  | succ m ih =>
    rw [show r + 1 + (m + 1) = (r + 1 + m) + 1 from rfl, List.range_succ, List.filter_append, ih]
    rw [List.filter_cons, c]
    unfold one
    rw [if_neg (show ¬ r + 1 + m = r by omega)]
    rfl
theorem jar_colours {n r : Nat} {P : D → Sto → Prop} (hn : n ≤ 8) (hr : r < n) (h : P (.lst [.int (r : Nat)]) st) : W (g_Jar_colours A [jarD A n (cnt [r])]) st P := by
  refine w_call0 rfl ?_
  rw [show startD 3 [jarD A n (cnt [r])] = [some (jarD A n (cnt [r])), none, none] from rfl]
  unfold b_Jar_colours
  have fo : eVar 0 [some (jarD A n (cnt [r])), none, none] st = some (.ok (.ins A.C_Jar [("amounts", .tup (mapR n fun i => .int (cnt [r] i)))]) st) := rfl
  simp only [w_ret, w_lc, w_iEnA, w_cons, w_nil, w_fld fo, w_enAT, enumD_mapR]
  refine ⟨by rw [mapR_len]; exact line_le (by omega), ?_⟩
  refine w_lcF (x := fun i => .tup [.int (i : Nat), .int (cnt [r] i)]) (ok := fun i => decide (0 < cnt [r] i)) (f := fun i => .int (i : Nat)) (fun i hi => ?_) ?_
  · rw [w_gT2]
    simp only [wipeD, List.set_cons_succ, List.set_cons_zero, w_eB, w_op2, w_var, w_c, List.getElem?_cons_zero, List.getElem?_cons_succ, w_cmp, w_bD]
    exact ⟨⟨trivial, trivial⟩, fun _ => ⟨trivial, trivial⟩⟩
  · obtain ⟨m, hm⟩ := Nat.exists_eq_add_of_lt hr
    rw [show n = r + 1 + m by omega, one_filter]
    exact ⟨rfl, rfl, h⟩
theorem jar_bool {n a : Nat} {l : List Nat} {P : D → Sto → Prop} (ha : a < n) (h : P (.bl true) st) : W (g_Jar_uubooluu A [jarD A n (cnt (a :: l))]) st P := by
  refine w_call0 rfl ?_
  rw [show startD 1 [jarD A n (cnt (a :: l))] = [some (jarD A n (cnt (a :: l)))] from rfl]
  unfold b_Jar_uubooluu
  have fo : eVar 0 [some (jarD A n (cnt (a :: l)))] st = some (.ok (.ins A.C_Jar [("amounts", .tup (mapR n fun i => .int (cnt (a :: l) i)))]) st) := rfl
  simp only [w_ret, w_eCall, w_cons, w_nil, w_fld fo, w_anyT]
  have e : (mapR n fun i => cnt (a :: l) i != 0).any id = true := by
    rw [List.any_eq_true]
    refine ⟨_, List.mem_of_getElem? (mapR_get ha), ?_⟩
    have := cnt_nonneg (l := l) (i := a)
    simp only [id, bne_iff_ne, ne_eq]
    rw [cnt_cons, one_self]
    omega
  rw [e]
  exact ⟨trivial, rfl, h⟩
theorem beans_ok {n a : Nat} {t : Nat → Nat → Int} {l : List Nat} {P : D → Sto → Prop} (hd : A.C_Jar ≠ A.C_Table) (ha : a < n) (h : P .non st) : W (g_need_beans A [tableD A n t, jarD A n (cnt (a :: l))]) st P := by
  refine w_call0 rfl ?_
  rw [show startD 2 [tableD A n t, jarD A n (cnt (a :: l))] = [some (tableD A n t), some (jarD A n (cnt (a :: l)))] from rfl]
  unfold b_need_beans
  have fo : eVar 1 [some (tableD A n t), some (jarD A n (cnt (a :: l)))] st = some (.ok (.ins A.C_Jar [("amounts", .tup (mapR n fun i => .int (cnt (a :: l) i)))]) st) := rfl
  rw [w_seq, w_expr]
  simp only [w_eCall, w_cons, w_nil, w_var, List.getElem?_cons_zero, List.getElem?_cons_succ]
  refine same_size hd ?_
  rw [goOn_nx, w_sif, w_tnot, w_truO fo]
  refine jar_bool ha ?_
  rw [w_bD, Bool.not_true, if_neg (by simp), DL.w_next]
  exact ⟨rfl, h⟩
theorem is_lst {xs : List D} {i : Nat} {δ : En} {P : D → Sto → Prop} (hv : δ[i]? = some (some (.lst xs))) (h : P (.bl true) st) : W (eIsi (anB "list" [A.C_Jar, A.C_Table]) (eVar i) δ) st P := by
  rw [w_isi, w_var, hv]
  dsimp only
  rw [w_isiD (an := anB "list" [A.C_Jar, A.C_Table]) (d := .lst xs) rfl k_ll]
  exact h
/-- what walked answers here -/
def Walked (A : As) (n : Nat) (t : Nat → Nat → Int) (l : List Nat) (d1 d2 : D) (r : Nat) : Prop := ∃ k : Nat → Int, ∀ (s : Sto) (Q : D → Sto → Prop), Q (.lst [jarD A n (cnt l), jarD A n k, jarD A n (cnt [r])]) s → W (g_walked A [tableD A n t, jarD A n (cnt l), .lst [d1, d2]]) s Q
theorem last3 {x y z : D} : atI [x, y, z] (-1) = some z := rfl
theorem is_way_ok {n r : Nat} {t : Nat → Nat → Int} {l : List Nat} {d1 d2 : D} {P : D → Sto → Prop} (w : Walked A n t l d1 d2 r) (hr : r < n) (h : P (.bl true) st) : W (g_is_way A [tableD A n t, jarD A n (cnt l), .lst [d1, d2]]) st P := by
  obtain ⟨k, w⟩ := w
  refine w_call0 rfl ?_
  rw [show startD 4 [tableD A n t, jarD A n (cnt l), .lst [d1, d2]] = [some (tableD A n t), some (jarD A n (cnt l)), some (.lst [d1, d2]), none] from rfl]
  unfold b_is_way
  rw [w_seq, w_sif, w_tnot, w_eTru]
  refine is_lst rfl ?_
  rw [w_truB, Bool.not_true, if_neg (by simp), DL.w_next, goOn_nx, w_seq]
  simp only [w_asg, w_eCall, w_cons, w_nil, w_var, List.getElem?_cons_zero, List.getElem?_cons_succ]
  refine w _ _ ?_
  rw [w_gN]
  simp only [List.set_cons_succ, List.set_cons_zero]
  rw [goOn_nx, w_ret, w_and]
  simp only [w_op2, w_eCall, w_cons, w_nil, w_c, w_var, List.getElem?_cons_zero, List.getElem?_cons_succ, w_lenL, List.length_cons, List.length_nil, w_add, w_eqI, eqv_int, w_bD]
  rw [if_pos (by decide), w_op2]
  refine w_propW ?_
  rw [w_op2, w_var]
  dsimp only [List.getElem?_cons_zero, List.getElem?_cons_succ]
  rw [w_neg, w_c, w_negI, w_ixL last3]
  refine ⟨_, rfl, jar_total (l := [r]) (fun x hx => by rw [List.mem_singleton.mp hx]; exact hr) ?_⟩
  rw [w_c, w_eqI, eqv_int]
  exact ⟨rfl, rfl, h⟩
theorem played_ok {n a r : Nat} {t : Nat → Nat → Int} {l : List Nat} {d1 d2 : D} {P : D → Sto → Prop} (hd : A.C_Jar ≠ A.C_Table) (ha : a < n) (w : Walked A n t (a :: l) d1 d2 r) (hr : r < n) (h : ∀ k, P (.lst [jarD A n (cnt (a :: l)), jarD A n k, jarD A n (cnt [r])]) st) :
    W (g_played A [tableD A n t, jarD A n (cnt (a :: l)), .lst [d1, d2]]) st P := by
  obtain ⟨k, w⟩ := w
  refine w_call0 rfl ?_
  rw [show startD 4 [tableD A n t, jarD A n (cnt (a :: l)), .lst [d1, d2]] = [some (tableD A n t), some (jarD A n (cnt (a :: l))), some (.lst [d1, d2]), none] from rfl]
  unfold b_played
  rw [w_seq, w_expr]
  simp only [w_eCall, w_cons, w_nil, w_var, List.getElem?_cons_zero, List.getElem?_cons_succ]
  refine beans_ok hd ha ?_
  rw [goOn_nx, w_seq, w_sif, w_tnot, w_eTru]
  refine is_lst rfl ?_
  rw [w_truB, Bool.not_true, if_neg (by simp), DL.w_next, goOn_nx, w_seq]
  simp only [w_asg, w_eCall, w_cons, w_nil, w_var, List.getElem?_cons_zero, List.getElem?_cons_succ]
  refine w _ _ ?_
  rw [w_gN]
  simp only [List.set_cons_succ, List.set_cons_zero]
  rw [goOn_nx, w_seq, w_sif, w_tor, w_eB, w_op2]
  simp only [w_eCall, w_cons, w_nil, w_var, List.getElem?_cons_zero, List.getElem?_cons_succ, w_lenL, List.length_cons, List.length_nil, w_cmp, w_bD]
  rw [if_neg (by decide), w_eB, w_op2]
  refine w_propW ?_
  rw [w_op2, w_var]
  dsimp only [List.getElem?_cons_zero, List.getElem?_cons_succ]
  rw [w_neg, w_c, w_negI, w_ixL last3]
  refine ⟨_, rfl, jar_total (l := [r]) (fun x hx => by rw [List.mem_singleton.mp hx]; exact hr) ?_⟩
  rw [w_c, w_cmp, w_bD, if_neg (by simp), DL.w_next, goOn_nx, w_ret, w_var]
  dsimp only [List.getElem?_cons_zero, List.getElem?_cons_succ]
  refine ⟨rfl, ?_, h k⟩
  unfold belowD belowDs belowDs belowDs belowDs
  rw [below_jar, below_jar, below_jar]; rfl
theorem last_ok {n a r : Nat} {t : Nat → Nat → Int} {l : List Nat} {d1 d2 : D} {P : D → Sto → Prop} (hd : A.C_Jar ≠ A.C_Table) (hn : n ≤ 8) (ha : a < n) (w : Walked A n t (a :: l) d1 d2 r) (hr : r < n) (h : P (.int (r : Nat)) st) :
    W (g_last_of A [tableD A n t, jarD A n (cnt (a :: l)), .lst [d1, d2]]) st P := by
  refine w_call0 rfl ?_
  rw [show startD 4 [tableD A n t, jarD A n (cnt (a :: l)), .lst [d1, d2]] = [some (tableD A n t), some (jarD A n (cnt (a :: l))), some (.lst [d1, d2]), none] from rfl]
  unfold b_last_of
  rw [w_seq]
  simp only [w_asg, w_eCall, w_cons, w_nil, w_var, List.getElem?_cons_zero, List.getElem?_cons_succ]
  refine played_ok hd ha w hr fun k => ?_
  rw [w_gN]
  simp only [List.set_cons_succ, List.set_cons_zero]
  rw [goOn_nx, w_ret, w_op2]
  refine w_methW ?_
  rw [w_op2, w_var]
  dsimp only [List.getElem?_cons_zero, List.getElem?_cons_succ]
  rw [w_neg, w_c, w_negI, w_ixL last3]
  refine ⟨_, rfl, ?_, ?_⟩
  · have q : (("colours" : Str) == "amounts") = false := by decide
    simp [List.lookup, q]
  rw [w_nil]
  refine jar_colours hn hr ?_
  rw [w_c, w_ixL (d := .int (r : Nat)) rfl]
  exact ⟨rfl, rfl, h⟩
end
end Law
end
section
namespace Law
open PySem PySem.Spec L2 DL
section
variable {A : As} {st : Sto}
def lstN (l : List Nat) : D := .lst (l.map fun x => D.int (x : Nat))
theorem below_lstN {k : Nat} {l : List Nat} : belowD k (lstN l) = true := by
  unfold lstN belowD
  induction l with
  | nil => rfl
  | cons x l ih =>
    rw [List.map_cons]
    unfold belowDs
    rw [ih]
    rfl
theorem lstN_at {l : List Nat} {i : Nat} {x : D} (h : (l.map fun x => D.int (x : Nat))[i]? = some x) : ∃ y : Nat, l[i]? = some y ∧ x = .int (y : Nat) := by
  rw [List.getElem?_map] at h
  obtain ⟨y, h1, h2⟩ := Option.map_eq_some_iff.mp h
  exact ⟨y, h1, h2.symm⟩
theorem need_colsL {n : Nat} {l : List Nat} {P : D → Sto → Prop} (hl : ∀ x ∈ l, x < n) (h : P .non st) : W (g_need_colours A [lstN l, .int (n : Nat)]) st P := by
  refine w_call0 rfl ?_
  rw [show startD 3 [lstN l, D.int (n : Nat)] = [some (lstN l), some (.int (n : Nat)), none] from rfl]
  unfold b_need_colours
  rw [w_for]
  simp only [w_iSq, w_var, List.getElem?_cons_zero]
  unfold lstN
  rw [w_seqL]
  refine w_forM (fun i δ s => δ = [some (lstN l), some (.int (n : Nat)), none] ∧ s = st) (fun i x δ s hx I => ?_) (fun δ s I => ?_) ⟨rfl, rfl⟩
  · obtain ⟨e1, e2⟩ := I
    obtain ⟨y, hy, rfl⟩ := lstN_at hx
    have yn := hl y (List.mem_of_getElem? hy)
    rw [e1, e2, w_gN]
    simp only [List.set_cons_succ, List.set_cons_zero]
    refine w_scope ?_
    simp only [w_sif, w_tnot, w_eTru, w_eCall, w_cons, w_nil, w_var, List.getElem?_cons_zero, List.getElem?_cons_succ]
    refine is_colour_int ?_
    rw [decide_eq_true (show (0 : Int) ≤ (y : Nat) ∧ ((y : Nat) : Int) < (n : Nat) by omega), w_truB, Bool.not_true, if_neg (by simp), DL.w_next]
    refine ⟨.rfl', ?_, rfl, List.take_length⟩
    have b0 : belowO st.length (some (lstN l)) = true := below_lstN
    have b1 : belowO st.length (some (.int (n : Nat))) = true := rfl
    have b2 : belowO st.length none = true := rfl
    simp only [unsetAll, belowE, List.set_cons_succ, List.set_cons_zero, List.all_cons, List.all_nil, b0, b1, b2, Bool.and_true, Bool.and_self]
  · rw [I.1, I.2]
    exact ⟨rfl, h⟩
theorem cnt_snoc {l : List Nat} {x i : Nat} : cnt (l ++ [x]) i = cnt l i + one i x := by
  unfold cnt
  rw [List.count_append]
  have := cnt_cons (a := x) (l := []) (i := i)
  unfold cnt at this
  rw [List.count_nil] at this
  omega
theorem of_beans_ok {n : Nat} {l : List Nat} {P : D → Sto → Prop} (hn : n ≤ 8) (hn1 : 1 ≤ n) (hl : ∀ x ∈ l, x < n) (h : P (jarD A n (cnt l)) st) : W (g_Jar_of_beans A [.fn A.C_Jar, .int (n : Nat), lstN l]) st P := by
  refine w_callM rfl ?_
  rw [show startD 5 [.fn A.C_Jar, D.int (n : Nat), lstN l] = [some (.fn A.C_Jar), some (.int (n : Nat)), some (lstN l), none, none] from rfl]
  unfold b_Jar_of_beans
  rw [w_seq]
  simp only [w_sif, w_tor, w_tnot, w_eTru, w_eCall, w_cons, w_nil, w_var, List.getElem?_cons_zero, List.getElem?_cons_succ]
  refine is_integer_int ?_
  have h1 : ((1 : Int) ≤ (n : Nat)) := by omega
  have h8 : ((n : Nat) : Int) ≤ 8 := by omega
  simp only [w_truB, Bool.not_true, if_false, Bool.false_eq_true, w_tnot, w_eB, w_ch, w_c, w_var, List.getElem?_cons_zero, List.getElem?_cons_succ, w_cmp, w_bD, h1, h8, decide_true, if_true, w_bind, DL.w_next, goOn_nx]
  rw [w_seq]
  simp only [w_sif, w_tnot, w_eTru, w_eCall, w_cons, w_nil, w_var, List.getElem?_cons_zero, List.getElem?_cons_succ]
  refine is_sequence_lst ?_
  rw [w_truB, Bool.not_true, if_neg (by simp), DL.w_next, goOn_nx, w_seq, w_expr]
  simp only [w_eCall, w_cons, w_nil, w_var, List.getElem?_cons_zero, List.getElem?_cons_succ]
  refine need_colsL hl ?_
  rw [goOn_nx, w_seq]
  simp only [w_asg, w_op2, w_lst, w_cons, w_nil, w_c, w_var, List.getElem?_cons_zero, List.getElem?_cons_succ, w_mulN (show n ≤ 1000 by omega), w_gN, List.set_cons_succ, List.set_cons_zero]
  refine ⟨line_le (n := 1) (by decide), ?_⟩
  rw [goOn_nx, w_seq, w_for]
  simp only [w_iSq, w_var, List.getElem?_cons_zero, List.getElem?_cons_succ]
  rw [show lstN l = .lst (l.map fun x => D.int (x : Nat)) from rfl, w_seqL]
  refine w_forM (fun i δ s => δ = [some (.fn A.C_Jar), some (.int (n : Nat)), some (lstN l), some (.obj st.length), none] ∧ s = st ++ [.lst (mapR n fun k => .int (cnt (l.take i) k))]) (fun i x δ s hx I => ?_) (fun δ s I => ?_) ⟨rfl, rfl⟩
  · obtain ⟨e1, e2⟩ := I
    obtain ⟨y, hy, rfl⟩ := lstN_at hx
    have yn := hl y (List.mem_of_getElem? hy)
    rw [e1, e2, w_gN]
    simp only [List.set_cons_succ, List.set_cons_zero]
    refine w_scope ?_
    refine w_aug (j := st.length) (n := y) (xs := mapR n fun k => .int (cnt (l.take i) k)) (k := (y : Nat)) (x := cnt (l.take i) y) (y := 1) rfl ?_ last_at (mapR_at yn) (by rw [mapR_len]; exact ixN_nat yn) rfl ?_
    · rw [w_var]; exact ⟨rfl, rfl⟩
    rw [last_set, ints_set]
    have e : (mapR n fun k => D.int (if k = y then cnt (l.take i) y + 1 else cnt (l.take i) k)) = mapR n fun k => .int (cnt (l.take (i + 1)) k) := mapR_ext fun k _ => by
      have hi : i < l.length := (List.getElem?_eq_some_iff.mp hy).1
      have ey : l[i] = y := by rw [List.getElem?_eq_getElem hi] at hy; exact Option.some.inj hy
      rw [List.take_succ, hy, Option.toList_some, cnt_snoc]
      unfold one
      by_cases q : k = y
      · rw [if_pos q, if_pos q, q]
      · rw [if_neg q, if_neg q, Int.add_zero]
    rw [e]
    refine ⟨acc_tr below_ints, ?_, rfl, ?_⟩
    · have b0 : ∀ k, belowO k (some (.fn A.C_Jar)) = true := fun k => by show belowD k _ = true; unfold belowD; rfl
      have b1 : ∀ k, belowO k (some (.int (n : Nat))) = true := fun _ => rfl
      have b2 : ∀ k, belowO k (some (.lst (l.map fun x => D.int (x : Nat)))) = true := fun k => below_lstN
      have b2' : ∀ k, belowO k (some (lstN l)) = true := fun k => below_lstN
      have b3 : belowO (st ++ [Cell.lst (mapR n fun k => .int (cnt (l.take i) k))]).length (some (.obj st.length)) = true := by show belowD _ _ = true; unfold belowD; exact decide_eq_true (by simp)
      have b4 : ∀ k, belowO k none = true := fun _ => rfl
      simp only [unsetAll, belowE, List.set_cons_succ, List.set_cons_zero, List.all_cons, List.all_nil, b0, b1, b2, b2', b3, b4, Bool.and_true, Bool.and_self]
    · rw [List.take_of_length_le (by simp)]
  · obtain ⟨e1, e2⟩ := I
    rw [List.length_map, List.take_length] at e2
    rw [e1, e2, goOn_nx, w_ret, w_makeL rfl, w_eMake, w_cons, w_mv (j := st.length) rfl last_at, w_nil, last_set]
    refine jar_make (c := cnt l) hn hn1 (fun i _ => cnt_nonneg) ?_
    refine ⟨TrOk.app, _, frz_bel below_jar, ?_⟩
    rw [List.take_left]
    exact h
theorem is_own_jar {n : Nat} {c : Nat → Int} {i : Nat} {δ : En} {P : D → Sto → Prop} (hv : δ[i]? = some (some (jarD A n c))) (h : P (.bl true) st) : W (eIsi (anO A.C_Jar [A.C_Table]) (eVar i) δ) st P := by
  rw [w_isi, w_var, hv]
  dsimp only
  rw [w_isiD (an := anO A.C_Jar [A.C_Table]) (t := .inr A.C_Jar) (b := true) rfl (by unfold anO; dsimp only; rw [if_pos rfl])]
  exact h
theorem same_jars {n : Nat} {c c' : Nat → Int} {P : D → Sto → Prop} (h : P .non st) : W (g_need_same_size A [jarD A n c, jarD A n c']) st P := by
  refine w_call0 rfl ?_
  rw [show startD 2 [jarD A n c, jarD A n c'] = [some (jarD A n c), some (jarD A n c')] from rfl]
  unfold b_need_same_size
  have f0 : eVar 0 [some (jarD A n c), some (jarD A n c')] st = some (.ok (.ins A.C_Jar [("amounts", .tup (mapR n fun i => .int (c i)))]) st) := rfl
  have f1 : eVar 1 [some (jarD A n c), some (jarD A n c')] st = some (.ok (.ins A.C_Jar [("amounts", .tup (mapR n fun i => .int (c' i)))]) st) := rfl
  rw [w_sif, w_eB, w_op2, w_or2a f0, w_prop f0]
  refine jar_size ?_
  rw [w_prop f1]
  refine jar_size ?_
  refine w_neI' rfl ?_
  rw [w_bD, if_neg (by simp), DL.w_next]
  exact ⟨rfl, h⟩
theorem add_ok {n : Nat} {c c' : Nat → Int} {P : D → Sto → Prop} (hn : n ≤ 8) (hn1 : 1 ≤ n) (hc : ∀ i, i < n → 0 ≤ c i) (hc' : ∀ i, i < n → 0 ≤ c' i) (h : P (jarD A n fun i => c i + c' i) st) : W (g_Jar_uuadduu A [jarD A n c, jarD A n c']) st P := by
  refine w_call0 rfl ?_
  rw [show startD 4 [jarD A n c, jarD A n c'] = [some (jarD A n c), some (jarD A n c'), none, none] from rfl]
  unfold b_Jar_uuadduu
  have f0 : eVar 0 [some (jarD A n c), some (jarD A n c'), none, none] st = some (.ok (.ins A.C_Jar [("amounts", .tup (mapR n fun i => .int (c i)))]) st) := rfl
  have f1 : eVar 1 [some (jarD A n c), some (jarD A n c'), none, none] st = some (.ok (.ins A.C_Jar [("amounts", .tup (mapR n fun i => .int (c' i)))]) st) := rfl
  rw [w_seq, w_sif, w_tnot, w_eTru]
  refine is_own_jar rfl ?_
  rw [w_truB, Bool.not_true, if_neg (by simp), DL.w_next, goOn_nx, w_seq, w_expr]
  simp only [w_eCall, w_cons, w_nil, w_var, List.getElem?_cons_zero, List.getElem?_cons_succ]
  refine same_jars ?_
  rw [goOn_nx, w_ret, w_eMake, w_cons, w_lc, w_iZpA, w_cons, w_fld f0, w_cons, w_fld f1, w_nil, w_zpT, zip_mapR]
  refine ⟨by rw [mapR_len]; exact line_le (by omega), ?_⟩
  refine w_lcL (f := fun i => .int (c i + c' i)) (fun i hi => ?_) ?_
  · rw [w_gT2]
    simp only [wipeD, List.set_cons_succ, List.set_cons_zero, w_op2, w_var, List.getElem?_cons_zero, List.getElem?_cons_succ, w_add]
    exact ⟨trivial, trivial⟩
  · rw [w_nil]
    refine jar_make (c := fun i => c i + c' i) hn hn1 (fun i hi => Int.add_nonneg (hc i hi) (hc' i hi)) ?_
    exact ⟨rfl, below_jar, h⟩
end
end Law
end
section
namespace Law
open PySem PySem.Spec L2 DL
section
variable {A : As} {st : Sto}
/-- three colours are disputed -/
def disp (t : Nat → Nat → Int) (a b c : Nat) : Bool := !decide (t (t a b).toNat c = t a (t b c).toNat)
structure Least (n : Nat) (t : Nat → Nat → Int) (a b c : Nat) : Prop where
  ha : a < n
  hb : b < n
  hc : c < n
  yes : disp t a b c = true
  no1 : ∀ x y z, x < a → y < n → z < n → disp t x y z = false
  no2 : ∀ y z, y < b → z < n → disp t a y z = false
  no3 : ∀ z, z < c → disp t a b z = false
def NoDisp (n : Nat) (t : Nat → Nat → Int) : Prop := ∀ x y z, x < n → y < n → z < n → disp t x y z = false
theorem Least.same {n : Nat} {t : Nat → Nat → Int} {a b c x y z : Nat} (h : Least n t a b c) (g : Least n t x y z) : a = x ∧ b = y ∧ c = z := by
  have e1 : a = x := by
    rcases Nat.lt_trichotomy a x with q | q | q
    · have := g.no1 a b c q h.hb h.hc; rw [h.yes] at this; cases this
    · exact q
    · have := h.no1 x y z q g.hb g.hc; rw [g.yes] at this; cases this
  subst e1
  have e2 : b = y := by
    rcases Nat.lt_trichotomy b y with q | q | q
    · have := g.no2 b c q h.hc; rw [h.yes] at this; cases this
    · exact q
    · have := h.no2 y z q g.hc; rw [g.yes] at this; cases this
  subst e2
  refine ⟨rfl, rfl, ?_⟩
  rcases Nat.lt_trichotomy c z with q | q | q
  · have := g.no3 c q; rw [h.yes] at this; cases this
  · exact q
  · have := h.no3 z q; rw [g.yes] at this; cases this
theorem Least.not {n : Nat} {t : Nat → Nat → Int} {a b c : Nat} (h : Least n t a b c) (g : NoDisp n t) : False := by
  have := g a b c h.ha h.hb h.hc
  rw [h.yes] at this; cases this
def trip (a b c : Nat) : D := .tup [.int (a : Nat), .int (b : Nat), .int (c : Nat)]
theorem three_le {x y z : D} : [x, y, z].length ≤ sizeLine := by show 3 ≤ sizeLine; decide
theorem is_disputed_ok {n a b c : Nat} {t : Nat → Nat → Int} {P : D → Sto → Prop} (T : Sym n t) (ha : a < n) (hb : b < n) (hc : c < n) (h : P (.bl (disp t a b c)) st) : W (g_is_disputed A [tableD A n t, .int (a : Nat), .int (b : Nat), .int (c : Nat)]) st P := by
  refine w_call0 rfl ?_
  rw [show startD 4 [tableD A n t, .int (a : Nat), .int (b : Nat), .int (c : Nat)] = [some (tableD A n t), some (.int (a : Nat)), some (.int (b : Nat)), some (.int (c : Nat))] from rfl]
  unfold b_is_disputed
  have f0 : ∀ s : Sto, eVar 0 [some (tableD A n t), some (.int (a : Nat)), some (.int (b : Nat)), some (.int (c : Nat))] s = some (.ok (.ins A.C_Table [("grid", gridD n t)]) s) := fun _ => rfl
  rw [w_ret, w_op2, w_eSub (f0 _), w_tup, w_cons, w_eSub (f0 _), w_tup]
  simp only [w_cons, w_nil, w_var, List.getElem?_cons_zero, List.getElem?_cons_succ]
  refine ⟨two_le, table_get ha hb ?_⟩
  obtain ⟨l1, e1⟩ := tn T ha hb
  obtain ⟨l2, e2⟩ := tn T hb hc
  rw [e1]
  refine ⟨two_le, table_get l1 hc ?_⟩
  rw [w_eSub (f0 _), w_tup]
  simp only [w_cons, w_nil, w_var, List.getElem?_cons_zero, List.getElem?_cons_succ]
  rw [w_eSub (f0 _), w_tup]
  simp only [w_cons, w_nil, w_var, List.getElem?_cons_zero, List.getElem?_cons_succ]
  refine ⟨two_le, table_get hb hc ?_⟩
  rw [e2]
  refine ⟨two_le, table_get ha l2 ?_⟩
  rw [w_neI, eqv_int]
  exact ⟨rfl, rfl, h⟩
theorem below_table {k n : Nat} {t : Nat → Nat → Int} : belowD k (tableD A n t) = true := by unfold tableD belowD belowFs; rw [below_grid]; rfl
theorem below_rng {k n : Nat} : belowD k (.lst (rngD 0 n)) = true := by
  unfold belowD
  rw [rng_mapR]
  exact belowDs_map fun i _ => rfl
theorem first_ok {n : Nat} {t : Nat → Nat → Int} {P : D → Sto → Prop} (T : Sym n t) (hn : n ≤ 8) (h0 : NoDisp n t → P .non st) (h1 : ∀ a b c, Least n t a b c → P (trip a b c) st) : W (g_first_dispute A [tableD A n t]) st P := by
  refine w_call0 rfl ?_
  rw [show startD 5 [tableD A n t] = [some (tableD A n t), none, none, none, none] from rfl]
  unfold b_first_dispute
  have fo : eVar 0 [some (tableD A n t), none, none, none, none] st = some (.ok (.ins A.C_Table [("grid", gridD n t)]) st) := rfl
  rw [w_seq, w_asg, w_eListR1, w_prop fo]
  refine table_size ?_
  rw [w_rngL (by omega), w_gN]
  simp only [List.set_cons_succ, List.set_cons_zero]
  rw [goOn_nx, w_seq, w_for]
  have bT : ∀ k, belowO k (some (tableD A n t)) = true := fun k => below_table (A := A)
  have bR : ∀ k, belowO k (some (.lst (rngD 0 n))) = true := fun k => below_rng
  have bI : ∀ (k : Nat) (i : Int), belowO k (some (.int i)) = true := fun _ _ => rfl
  have bN : ∀ k, belowO k none = true := fun _ => rfl
  simp only [w_iSq, w_var, List.getElem?_cons_zero, List.getElem?_cons_succ, w_seqL]
  refine w_forM (fun i δ s => (δ = [some (tableD A n t), some (.lst (rngD 0 n)), none, none, none] ∧ s = st) ∧ ∀ x y z, x < i → y < n → z < n → disp t x y z = false) (fun i x δ s hx I => ?_) (fun δ s I => ?_) ⟨⟨rfl, rfl⟩, fun x y z q => absurd q (Nat.not_lt_zero _)⟩
  · obtain ⟨⟨e1, e2⟩, ih1⟩ := I
    obtain ⟨hi, rfl⟩ := rngD_getx hx
    rw [e1, e2, w_gN, Int.zero_add]
    simp only [List.set_cons_succ, List.set_cons_zero]
    refine w_scope ?_
    rw [w_for]
    simp only [w_iSq, w_var, List.getElem?_cons_zero, List.getElem?_cons_succ, w_seqL]
    refine w_forM (fun j δ s => (δ = [some (tableD A n t), some (.lst (rngD 0 n)), some (.int (i : Nat)), none, none] ∧ s = st) ∧ ∀ y z, y < j → z < n → disp t i y z = false) (fun j y δ s hy I => ?_) (fun δ s I => ?_) ⟨⟨rfl, rfl⟩, fun y z q => absurd q (Nat.not_lt_zero _)⟩
    · obtain ⟨⟨e1, e2⟩, ih2⟩ := I
      obtain ⟨hj, rfl⟩ := rngD_getx hy
      rw [e1, e2, w_gN, Int.zero_add]
      simp only [List.set_cons_succ, List.set_cons_zero]
      refine w_scope ?_
      rw [w_for]
      simp only [w_iSq, w_var, List.getElem?_cons_zero, List.getElem?_cons_succ, w_seqL]
      refine w_forM (fun k δ s => (δ = [some (tableD A n t), some (.lst (rngD 0 n)), some (.int (i : Nat)), some (.int (j : Nat)), none] ∧ s = st) ∧ ∀ z, z < k → disp t i j z = false) (fun k z δ s hz I => ?_) (fun δ s I => ?_) ⟨⟨rfl, rfl⟩, fun z q => absurd q (Nat.not_lt_zero _)⟩
      · obtain ⟨⟨e1, e2⟩, ih3⟩ := I
        obtain ⟨hk, rfl⟩ := rngD_getx hz
        rw [e1, e2, w_gN, Int.zero_add]
        simp only [List.set_cons_succ, List.set_cons_zero]
        refine w_scope ?_
        rw [w_sif, w_eTru]
        simp only [w_eCall, w_cons, w_nil, w_var, List.getElem?_cons_zero, List.getElem?_cons_succ]
        refine is_disputed_ok T hi hj hk ?_
        rw [w_truB]
        cases hd : disp t i j k with
        | true =>
          rw [if_pos rfl, w_ret]
          simp only [w_tup, w_cons, w_nil, w_var, List.getElem?_cons_zero, List.getElem?_cons_succ]
          exact ⟨three_le, rfl, rfl, h1 i j k ⟨hi, hj, hk, hd, ih1, ih2, ih3⟩⟩
        | false =>
          rw [if_neg (by simp), DL.w_next]
          refine ⟨.rfl', ?_, ⟨rfl, List.take_length⟩, fun z hz => ?_⟩
          · simp only [unsetAll, belowE, List.set_cons_succ, List.set_cons_zero, List.all_cons, List.all_nil, bT, bR, bI, bN, Bool.and_true, Bool.and_self]
          · rcases Nat.lt_succ_iff_lt_or_eq.mp hz with q | q
            · exact ih3 z q
            · rw [q]; exact hd
      · obtain ⟨⟨e1, e2⟩, ih3⟩ := I
        rw [rngD_length] at ih3
        rw [e1, e2]
        refine ⟨.rfl', ?_, ⟨rfl, List.take_length⟩, fun y z hy hz => ?_⟩
        · simp only [unsetAll, belowE, List.set_cons_succ, List.set_cons_zero, List.all_cons, List.all_nil, bT, bR, bI, bN, Bool.and_true, Bool.and_self]
        · rcases Nat.lt_succ_iff_lt_or_eq.mp hy with q | q
          · exact ih2 y z q hz
          · rw [q]; exact ih3 z hz
    · obtain ⟨⟨e1, e2⟩, ih2⟩ := I
      rw [rngD_length] at ih2
      rw [e1, e2]
      refine ⟨.rfl', ?_, ⟨rfl, List.take_length⟩, fun x y z hx hy hz => ?_⟩
      · simp only [unsetAll, belowE, List.set_cons_succ, List.set_cons_zero, List.all_cons, List.all_nil, bT, bR, bI, bN, Bool.and_true, Bool.and_self]
      · rcases Nat.lt_succ_iff_lt_or_eq.mp hx with q | q
        · exact ih1 x y z q hy hz
        · rw [q]; exact ih2 y z hy hz
  · obtain ⟨⟨e1, e2⟩, ih1⟩ := I
    rw [rngD_length] at ih1
    rw [e1, e2, goOn_nx, w_ret, w_c]
    exact ⟨rfl, rfl, h0 ih1⟩
theorem first_no {n : Nat} {t : Nat → Nat → Int} {P : D → Sto → Prop} (T : Sym n t) (hn : n ≤ 8) (g : NoDisp n t) (h : P .non st) : W (g_first_dispute A [tableD A n t]) st P := first_ok T hn (fun _ => h) fun _ _ _ q => (q.not g).elim
theorem first_yes {n a b c : Nat} {t : Nat → Nat → Int} {P : D → Sto → Prop} (T : Sym n t) (hn : n ≤ 8) (g : Least n t a b c) (h : P (trip a b c) st) : W (g_first_dispute A [tableD A n t]) st P := first_ok T hn (fun q => (g.not q).elim) fun x y z q => by
  obtain ⟨rfl, rfl, rfl⟩ := g.same q
  exact h
theorem passes_no {n : Nat} {t : Nat → Nat → Int} {P : D → Sto → Prop} (T : Sym n t) (hn : n ≤ 8) (g : NoDisp n t) (h : P (.bl true) st) : W (g_passes A [tableD A n t]) st P := by
  refine w_call0 rfl ?_
  rw [show startD 1 [tableD A n t] = [some (tableD A n t)] from rfl]
  unfold b_passes
  rw [w_ret, w_op2]
  simp only [w_eCall, w_cons, w_nil, w_var, List.getElem?_cons_zero]
  refine first_no T hn g ?_
  rw [w_c, w_isN]
  exact ⟨rfl, rfl, h⟩
theorem passes_yes {n a b c : Nat} {t : Nat → Nat → Int} {P : D → Sto → Prop} (T : Sym n t) (hn : n ≤ 8) (g : Least n t a b c) (h : P (.bl false) st) : W (g_passes A [tableD A n t]) st P := by
  refine w_call0 rfl ?_
  rw [show startD 1 [tableD A n t] = [some (tableD A n t)] from rfl]
  unfold b_passes
  rw [w_ret, w_op2]
  simp only [w_eCall, w_cons, w_nil, w_var, List.getElem?_cons_zero]
  refine first_yes T hn g ?_
  unfold trip
  rw [w_c, w_isT]
  exact ⟨rfl, rfl, h⟩
/-- the law's own -/
theorem law_first {n : Nat} {t : Nat → Nat → Int} {P : D → Sto → Prop} (T : Sym n t) (hn : n ≤ 8) (h0 : NoDisp n t → P .non st) (h1 : ∀ a b c, Least n t a b c → P (trip a b c) st) : W (g_ulaw_first A [tabD n t, .int (n : Nat)]) st P := by
  refine w_call0 rfl ?_
  rw [show startD 7 [tabD n t, D.int (n : Nat)] = [some (tabD n t), some (.int (n : Nat)), none, none, none, none, none] from rfl]
  unfold b_ulaw_first
  rw [w_seq, w_for]
  have bT : ∀ k, belowO k (some (tabD n t)) = true := fun k => below_tab
  have bI : ∀ (k : Nat) (i : Int), belowO k (some (.int i)) = true := fun _ _ => rfl
  have bN : ∀ k, belowO k none = true := fun _ => rfl
  have ix : ∀ (a b : Nat) (s : Sto) (Q : D → Sto → Prop), a < n → b < n → W (ixD (tabD n t) (.int (a : Nat))) s (fun x s => W (ixD x (.int (b : Nat))) s Q) = Q (.int (t a b)) s := fun a b s Q ha hb => by
    unfold tabD
    rw [w_ixL (mapR_at (n := n) (f := fun a => D.lst (mapR n fun b => .int (t a b))) ha), w_ixL (mapR_at (n := n) (f := fun b => D.int (t a b)) hb)]
  simp only [w_iR1, w_cons, w_nil, w_var, List.getElem?_cons_zero, List.getElem?_cons_succ, w_rng1 (show n ≤ 1000 by omega)]
  refine w_forM (fun i δ s => (δ = [some (tabD n t), some (.int (n : Nat)), none, none, none, none, none] ∧ s = st) ∧ ∀ x y z, x < i → y < n → z < n → disp t x y z = false) (fun i x δ s hx I => ?_) (fun δ s I => ?_) ⟨⟨rfl, rfl⟩, fun x y z q => absurd q (Nat.not_lt_zero _)⟩
  · obtain ⟨⟨e1, e2⟩, ih1⟩ := I
    obtain ⟨hi, rfl⟩ := rngD_getx hx
    rw [e1, e2, w_gN, Int.zero_add]
    simp only [List.set_cons_succ, List.set_cons_zero]
    refine w_scope ?_
    rw [w_for]
    simp only [w_iR1, w_cons, w_nil, w_var, List.getElem?_cons_zero, List.getElem?_cons_succ, w_rng1 (show n ≤ 1000 by omega)]
    refine w_forM (fun j δ s => (δ = [some (tabD n t), some (.int (n : Nat)), some (.int (i : Nat)), none, none, none, none] ∧ s = st) ∧ ∀ y z, y < j → z < n → disp t i y z = false) (fun j y δ s hy I => ?_) (fun δ s I => ?_) ⟨⟨rfl, rfl⟩, fun y z q => absurd q (Nat.not_lt_zero _)⟩
    · obtain ⟨⟨e1, e2⟩, ih2⟩ := I
      obtain ⟨hj, rfl⟩ := rngD_getx hy
      rw [e1, e2, w_gN, Int.zero_add]
      simp only [List.set_cons_succ, List.set_cons_zero]
      refine w_scope ?_
      rw [w_for]
      simp only [w_iR1, w_cons, w_nil, w_var, List.getElem?_cons_zero, List.getElem?_cons_succ, w_rng1 (show n ≤ 1000 by omega)]
      refine w_forM (fun k δ s => (δ = [some (tabD n t), some (.int (n : Nat)), some (.int (i : Nat)), some (.int (j : Nat)), none, none, none] ∧ s = st) ∧ ∀ z, z < k → disp t i j z = false) (fun k z δ s hz I => ?_) (fun δ s I => ?_) ⟨⟨rfl, rfl⟩, fun z q => absurd q (Nat.not_lt_zero _)⟩
      · obtain ⟨⟨e1, e2⟩, ih3⟩ := I
        obtain ⟨hk, rfl⟩ := rngD_getx hz
        obtain ⟨l1, q1⟩ := tn T hi hj
        obtain ⟨l2, q2⟩ := tn T hj hk
        rw [e1, e2, w_gN, Int.zero_add]
        simp only [List.set_cons_succ, List.set_cons_zero]
        refine w_scope ?_
        rw [w_seq]
        refine w_par2 ?_
        simp only [w_cons, w_nil, w_op2, w_var, List.getElem?_cons_zero, List.getElem?_cons_succ]
        rw [ix i j _ _ hi hj, ix j k _ _ hj hk]
        refine ⟨_, _, rfl, ?_⟩
        simp only [List.set_cons_succ, List.set_cons_zero]
        rw [goOn_nx, w_sif, w_eB]
        simp only [w_op2, w_var, List.getElem?_cons_zero, List.getElem?_cons_succ]
        rw [q1, q2, ix _ _ _ _ l1 hk, ix _ _ _ _ hi l2, w_neI, eqv_int, w_bD]
        have hd : (!decide (t (t i j).toNat k = t i (t j k).toNat)) = disp t i j k := rfl
        rw [hd]
        cases hd : disp t i j k with
        | true =>
          rw [if_pos rfl, w_ret]
          simp only [w_tup, w_cons, w_nil, w_var, List.getElem?_cons_zero, List.getElem?_cons_succ]
          exact ⟨three_le, rfl, rfl, h1 i j k ⟨hi, hj, hk, hd, ih1, ih2, ih3⟩⟩
        | false =>
          rw [if_neg (by simp), DL.w_next]
          refine ⟨.rfl', ?_, ⟨rfl, List.take_length⟩, fun z hz => ?_⟩
          · simp only [unsetAll, belowE, List.set_cons_succ, List.set_cons_zero, List.all_cons, List.all_nil, bT, bI, bN, Bool.and_true, Bool.and_self]
          · rcases Nat.lt_succ_iff_lt_or_eq.mp hz with q | q
            · exact ih3 z q
            · rw [q]; exact hd
      · obtain ⟨⟨e1, e2⟩, ih3⟩ := I
        rw [rngD_length] at ih3
        rw [e1, e2]
        refine ⟨.rfl', ?_, ⟨rfl, List.take_length⟩, fun y z hy hz => ?_⟩
        · simp only [unsetAll, belowE, List.set_cons_succ, List.set_cons_zero, List.all_cons, List.all_nil, bT, bI, bN, Bool.and_true, Bool.and_self]
        · rcases Nat.lt_succ_iff_lt_or_eq.mp hy with q | q
          · exact ih2 y z q hz
          · rw [q]; exact ih3 z hz
    · obtain ⟨⟨e1, e2⟩, ih2⟩ := I
      rw [rngD_length] at ih2
      rw [e1, e2]
      refine ⟨.rfl', ?_, ⟨rfl, List.take_length⟩, fun x y z hx hy hz => ?_⟩
      · simp only [unsetAll, belowE, List.set_cons_succ, List.set_cons_zero, List.all_cons, List.all_nil, bT, bI, bN, Bool.and_true, Bool.and_self]
      · rcases Nat.lt_succ_iff_lt_or_eq.mp hx with q | q
        · exact ih1 x y z q hy hz
        · rw [q]; exact ih2 y z hy hz
  · obtain ⟨⟨e1, e2⟩, ih1⟩ := I
    rw [rngD_length] at ih1
    rw [e1, e2, goOn_nx, w_ret, w_c]
    exact ⟨rfl, rfl, h0 ih1⟩
end
end Law
end
section
namespace Law
open PySem PySem.Spec L2 DL
section
variable {A : As} {st : Sto}
theorem draw_of_ok {x y : Nat} {P : D → Sto → Prop} (h : P (dr x y) st) : W (g_draw_of A [.int (x : Nat), .int (y : Nat)]) st P := by
  refine w_call0 rfl ?_
  rw [show startD 2 [D.int (x : Nat), D.int (y : Nat)] = [some (.int (x : Nat)), some (.int (y : Nat))] from rfl]
  unfold b_draw_of
  simp only [w_ret, w_tup, w_eCall, w_cons, w_nil, w_var, List.getElem?_cons_zero, List.getElem?_cons_succ, w_min, w_max]
  have e : D.tup [.int (if ((y : Nat) : Int) < (x : Nat) then ((y : Nat) : Int) else (x : Nat)), .int (if ((y : Nat) : Int) > (x : Nat) then ((y : Nat) : Int) else (x : Nat))] = dr x y := by
    unfold dr pairD
    have e1 : (if ((y : Nat) : Int) < (x : Nat) then ((y : Nat) : Int) else (x : Nat)) = ((min x y : Nat) : Int) := by split <;> omega
    have e2 : (if ((y : Nat) : Int) > (x : Nat) then ((y : Nat) : Int) else (x : Nat)) = ((min x y + (max x y - min x y) : Nat) : Int) := by split <;> omega
    rw [e1, e2]
  rw [e]
  exact ⟨two_le, trivial, rfl, h⟩
/-- the dispute of a triple -/
def dispD (A : As) (n : Nat) (t : Nat → Nat → Int) (a b c : Nat) : D := .tup [jarD A n (cnt [a, b, c]), .lst [dr a b, dr (t a b).toNat c], .lst [dr b c, dr a (t b c).toNat]]
theorem below_two {k a b c d : Nat} : belowD k (.lst [dr a b, dr c d]) = true := rfl
theorem trip_lst {a b c : Nat} : D.lst [.int (a : Nat), .int (b : Nat), .int (c : Nat)] = lstN [a, b, c] := rfl
theorem dispute_no {n : Nat} {t : Nat → Nat → Int} {P : D → Sto → Prop} (T : Sym n t) (hn : n ≤ 8) (g : NoDisp n t) (h : P .non st) : W (g_dispute A [tableD A n t]) st P := by
  refine w_call0 rfl ?_
  rw [show startD 7 [tableD A n t] = [some (tableD A n t), none, none, none, none, none, none] from rfl]
  unfold b_dispute
  rw [w_seq]
  simp only [w_asg, w_eCall, w_cons, w_nil, w_var, List.getElem?_cons_zero]
  refine first_no T hn g ?_
  rw [w_gN]
  simp only [List.set_cons_succ, List.set_cons_zero]
  rw [goOn_nx, w_seq, w_sif, w_eB, w_op2, w_var]
  dsimp only [List.getElem?_cons_zero, List.getElem?_cons_succ]
  rw [w_c, w_isN, w_bD, if_pos rfl, w_ret, w_c]
  exact ⟨rfl, rfl, h⟩
theorem dispute_yes {n a b c : Nat} {t : Nat → Nat → Int} {P : D → Sto → Prop} (T : Sym n t) (hn : n ≤ 8) (g : Least n t a b c) (h : P (dispD A n t a b c) st) : W (g_dispute A [tableD A n t]) st P := by
  obtain ⟨l1, q1⟩ := tn T g.ha g.hb
  obtain ⟨l2, q2⟩ := tn T g.hb g.hc
  have ha := g.ha
  refine w_call0 rfl ?_
  rw [show startD 7 [tableD A n t] = [some (tableD A n t), none, none, none, none, none, none] from rfl]
  unfold b_dispute
  rw [w_seq]
  simp only [w_asg, w_eCall, w_cons, w_nil, w_var, List.getElem?_cons_zero]
  refine first_yes T hn g ?_
  rw [w_gN]
  simp only [List.set_cons_succ, List.set_cons_zero]
  unfold trip
  have f0 : ∀ (δ' : En) (s : Sto), eVar 0 (some (tableD A n t) :: δ') s = some (.ok (.ins A.C_Table [("grid", gridD n t)]) s) := fun _ _ => rfl
  rw [goOn_nx, w_seq, w_sif, w_eB, w_op2, w_var]
  dsimp only [List.getElem?_cons_zero, List.getElem?_cons_succ]
  rw [w_c, w_isT, w_bD, if_neg (by simp), DL.w_next, goOn_nx, w_seq, w_asg, w_var]
  dsimp only [List.getElem?_cons_zero, List.getElem?_cons_succ]
  rw [w_gT3]
  simp only [List.set_cons_succ, List.set_cons_zero]
  rw [goOn_nx, w_seq, w_asg, w_lst]
  simp only [w_eCall, w_cons, w_nil, w_var, List.getElem?_cons_zero, List.getElem?_cons_succ]
  refine draw_of_ok ?_
  rw [w_eSub (f0 _ _), w_tup]
  simp only [w_cons, w_nil, w_var, List.getElem?_cons_zero, List.getElem?_cons_succ]
  refine ⟨two_le, table_get g.ha g.hb ?_⟩
  rw [q1]
  refine draw_of_ok ?_
  refine ⟨two_le, ?_⟩
  rw [w_gN]
  simp only [List.set_cons_succ, List.set_cons_zero]
  rw [goOn_nx, w_seq, w_asg, w_lst]
  simp only [w_eCall, w_cons, w_nil, w_var, List.getElem?_cons_zero, List.getElem?_cons_succ]
  refine draw_of_ok ?_
  rw [w_eSub (f0 _ _), w_tup]
  simp only [w_cons, w_nil, w_var, List.getElem?_cons_zero, List.getElem?_cons_succ]
  refine ⟨two_le, table_get g.hb g.hc ?_⟩
  rw [q2]
  refine draw_of_ok ?_
  refine ⟨two_le, ?_⟩
  rw [w_gN]
  simp only [List.set_cons_succ, List.set_cons_zero]
  rw [goOn_nx, w_ret, w_tup, w_cons, w_eCM, w_cons, w_prop (f0 _ _)]
  refine table_size ?_
  simp only [w_lst, w_cons, w_nil, w_var, List.getElem?_cons_zero, List.getElem?_cons_succ]
  refine ⟨three_le, ?_⟩
  rw [trip_lst]
  refine of_beans_ok hn (by omega) (fun x hx => ?_) ?_
  · simp only [List.mem_cons, List.not_mem_nil, or_false] at hx
    rcases hx with rfl | rfl | rfl
    · exact g.ha
    · exact g.hb
    · exact g.hc
  refine ⟨three_le, rfl, ?_, ?_⟩
  · unfold belowD belowDs belowDs belowDs belowDs
    rw [below_jar, below_two, below_two]; rfl
  · exact h
theorem walk1 {n a b c : Nat} {t : Nat → Nat → Int} (hd : A.C_Jar ≠ A.C_Table) (T : Sym n t) (hn : n ≤ 8) (ha : a < n) (hb : b < n) (hc : c < n) : Walked A n t [a, b, c] (dr a b) (dr (t a b).toNat c) (t (t a b).toNat c).toNat :=
  ⟨_, fun s Q q => walked_two hd T hn ha hb (tn T ha hb).1 hc rfl q⟩
theorem walk2 {n a b c : Nat} {t : Nat → Nat → Int} (hd : A.C_Jar ≠ A.C_Table) (T : Sym n t) (hn : n ≤ 8) (ha : a < n) (hb : b < n) (hc : c < n) : Walked A n t [a, b, c] (dr b c) (dr a (t b c).toNat) (t a (t b c).toNat).toNat := by
  have e : cnt [a, b, c] = cnt [b, c, a] := by
    funext i
    simp only [cnt_cons]; omega
  refine ⟨cnt [a, (t b c).toNat], fun s Q q => ?_⟩
  rw [e] at q ⊢
  exact walked_two hd T hn hb hc ha (tn T hb hc).1 cnt_swap q
theorem is_dispute_ok {n a r r' : Nat} {t : Nat → Nat → Int} {l : List Nat} {d1 d2 e1 e2 : D} {P : D → Sto → Prop} (hd : A.C_Jar ≠ A.C_Table) (hn : n ≤ 8) (ha : ∀ x ∈ a :: l, x < n) (hl : (a :: l).length = 3) (w : Walked A n t (a :: l) d1 d2 r) (w' : Walked A n t (a :: l) e1 e2 r') (hr : r < n) (hr' : r' < n)
    (h : P (.bl (!decide ((r : Int) = (r' : Nat)))) st) : W (g_is_dispute A [tableD A n t, .tup [jarD A n (cnt (a :: l)), .lst [d1, d2], .lst [e1, e2]]]) st P := by
  refine w_call0 rfl ?_
  rw [show startD 5 [tableD A n t, .tup [jarD A n (cnt (a :: l)), .lst [d1, d2], .lst [e1, e2]]] = [some (tableD A n t), some (.tup [jarD A n (cnt (a :: l)), .lst [d1, d2], .lst [e1, e2]]), none, none, none] from rfl]
  unfold b_is_dispute
  have f0 : ∀ (δ' : En) (s : Sto), eVar 0 (some (tableD A n t) :: δ') s = some (.ok (.ins A.C_Table [("grid", gridD n t)]) s) := fun _ _ => rfl
  rw [w_seq, w_sif, w_tor, w_tnot, w_eTru, w_isi, w_var]
  dsimp only [List.getElem?_cons_zero, List.getElem?_cons_succ]
  rw [w_isiD (an := anB "tuple" [A.C_Jar, A.C_Table]) (d := .tup [jarD A n (cnt (a :: l)), .lst [d1, d2], .lst [e1, e2]]) rfl k_tt, w_truB, Bool.not_true, if_neg (by simp), w_eB, w_op2]
  simp only [w_eCall, w_cons, w_nil, w_c, w_var, List.getElem?_cons_zero, List.getElem?_cons_succ, w_lenT]
  refine w_neI' rfl ?_
  rw [w_bD, if_neg (by simp), DL.w_next, goOn_nx, w_seq, w_asg, w_var]
  dsimp only [List.getElem?_cons_zero, List.getElem?_cons_succ]
  rw [w_gT3]
  simp only [List.set_cons_succ, List.set_cons_zero]
  have f2 : eVar 2 [some (tableD A n t), some (.tup [jarD A n (cnt (a :: l)), .lst [d1, d2], .lst [e1, e2]]), some (jarD A n (cnt (a :: l))), some (.lst [d1, d2]), some (.lst [e1, e2])] st = some (.ok (.ins A.C_Jar [("amounts", .tup (mapR n fun i => .int (cnt (a :: l) i)))]) st) := rfl
  rw [goOn_nx, w_seq, w_sif, w_tor, w_tnot, w_eTru]
  refine is_own_jar rfl ?_
  rw [w_truB, Bool.not_true, if_neg (by simp), w_tor, w_eB, w_op2, w_prop f2]
  refine jar_size ?_
  rw [w_prop (f0 _ _)]
  refine table_size ?_
  refine w_neI' rfl ?_
  rw [w_bD, if_neg (by simp), w_eB, w_op2, w_prop f2]
  refine jar_total ha ?_
  rw [w_c]
  refine w_neI' (by rw [hl]; rfl) ?_
  rw [w_bD, if_neg (by simp), DL.w_next, goOn_nx, w_seq, w_sif, w_tor, w_tnot, w_eTru]
  simp only [w_eCall, w_cons, w_nil, w_var, List.getElem?_cons_zero, List.getElem?_cons_succ]
  refine is_way_ok w hr ?_
  rw [w_truB, Bool.not_true, if_neg (by simp), w_tnot, w_eTru]
  simp only [w_eCall, w_cons, w_nil, w_var, List.getElem?_cons_zero, List.getElem?_cons_succ]
  refine is_way_ok w' hr' ?_
  rw [w_truB, Bool.not_true, if_neg (by simp), DL.w_next, goOn_nx, w_ret, w_op2]
  simp only [w_eCall, w_cons, w_nil, w_var, List.getElem?_cons_zero, List.getElem?_cons_succ]
  refine last_ok hd hn (ha a (List.mem_cons_self)) w hr ?_
  refine last_ok hd hn (ha a (List.mem_cons_self)) w' hr' ?_
  rw [w_neI, eqv_int]
  exact ⟨rfl, rfl, h⟩
theorem is_dispute_big {n : Nat} {t : Nat → Nat → Int} {l : List Nat} {w1 w2 : D} {P : D → Sto → Prop} (hl : ∀ x ∈ l, x < n) (h3 : l.length ≠ 3) (hf : belowD st.length w1 = true ∧ belowD st.length w2 = true) (h : P (.bl false) st) :
    W (g_is_dispute A [tableD A n t, .tup [jarD A n (cnt l), w1, w2]]) st P := by
  refine w_call0 rfl ?_
  rw [show startD 5 [tableD A n t, .tup [jarD A n (cnt l), w1, w2]] = [some (tableD A n t), some (.tup [jarD A n (cnt l), w1, w2]), none, none, none] from rfl]
  unfold b_is_dispute
  have f0 : ∀ (δ' : En) (s : Sto), eVar 0 (some (tableD A n t) :: δ') s = some (.ok (.ins A.C_Table [("grid", gridD n t)]) s) := fun _ _ => rfl
  rw [w_seq, w_sif, w_tor, w_tnot, w_eTru, w_isi, w_var]
  dsimp only [List.getElem?_cons_zero, List.getElem?_cons_succ]
  rw [w_isiD (an := anB "tuple" [A.C_Jar, A.C_Table]) (d := .tup [jarD A n (cnt l), w1, w2]) rfl k_tt, w_truB, Bool.not_true, if_neg (by simp), w_eB, w_op2]
  simp only [w_eCall, w_cons, w_nil, w_c, w_var, List.getElem?_cons_zero, List.getElem?_cons_succ, w_lenT]
  refine w_neI' rfl ?_
  rw [w_bD, if_neg (by simp), DL.w_next, goOn_nx, w_seq, w_asg, w_var]
  dsimp only [List.getElem?_cons_zero, List.getElem?_cons_succ]
  rw [w_gT3]
  simp only [List.set_cons_succ, List.set_cons_zero]
  have f2 : eVar 2 [some (tableD A n t), some (.tup [jarD A n (cnt l), w1, w2]), some (jarD A n (cnt l)), some w1, some w2] st = some (.ok (.ins A.C_Jar [("amounts", .tup (mapR n fun i => .int (cnt l i)))]) st) := rfl
  rw [goOn_nx, w_seq, w_sif, w_tor, w_tnot, w_eTru]
  refine is_own_jar rfl ?_
  rw [w_truB, Bool.not_true, if_neg (by simp), w_tor, w_eB, w_op2, w_prop f2]
  refine jar_size ?_
  rw [w_prop (f0 _ _)]
  refine table_size ?_
  refine w_neI' rfl ?_
  rw [w_bD, if_neg (by simp), w_eB, w_op2, w_prop f2]
  refine jar_total hl ?_
  rw [w_c, w_neI, eqv_int, decide_eq_false (by omega), w_bD, Bool.not_false, if_pos rfl, w_ret, w_c, goOn_rt]
  exact ⟨rfl, rfl, h⟩
end
end Law
end
section
namespace Law
open PySem PySem.Spec L2 DL
section
variable {A : As} {st : Sto}
theorem below_fl {k : Nat} : ∀ {ns : List Int}, belowDs k (ns.map D.int) = true
  | [] => rfl
  | n :: ns => by
    rw [List.map_cons]
    unfold belowDs
    rw [below_fl]
    rfl
theorem w_src {ns : List Int} {δ' : En} {P : List D → Sto → Prop} (h : ∀ m : Nat, m ≤ 10 → P (rngD 0 m) st) : W (iR1 (eCons (eCall max2D (eCons (eC (.int 1)) (eCons (eCall min2D (eCons (eCall lenD (eCons (eVar 0) eNil)) (eCons (eC (.int 10)) eNil))) eNil))) eNil) (some (.fl (ns.map D.int)) :: δ')) st P := by
  simp only [w_iR1, w_eCall, w_cons, w_nil, w_c, w_var, List.getElem?_cons_zero, w_lenF, w_min, w_max]
  have key : ∀ q : Int, 1 ≤ q → q ≤ 10 → W (rng1 [.int q]) st P := fun q h1 h2 => by
    obtain ⟨m, rfl⟩ := Int.eq_ofNat_of_zero_le (show 0 ≤ q by omega)
    rw [w_rng1 (by omega)]
    exact h m (by omega)
  refine key _ ?_ ?_
  · split <;> omega
  · split
    · split <;> omega
    · omega
theorem datR_non {k : Nat} : DatR st k .non := ⟨.none, by cases k <;> rfl, by unfold PyData.eqv; rfl⟩
theorem datR_trip {a b c : Nat} : DatR st 8 (trip a b c) := by
  unfold trip
  refine datR_tup fun d hd => ?_
  simp only [List.mem_cons, List.not_mem_nil, or_false] at hd
  rcases hd with rfl | rfl | rfl <;> exact datR_int
theorem cnt_twice {l : List Nat} : (fun i => cnt l i + cnt l i) = cnt (l ++ l) := by
  funext i
  unfold cnt
  rw [List.count_append]
  omega
theorem w_binO {C : Addr} {g : List D → M D} {fs fs' : List (Str × D)} {P : D → Sto → Prop} : W (binOD C g (.ins C fs) (.ins C fs')) st P = W (g [.ins C fs, .ins C fs']) st P := by
  have e : binOD C g (.ins C fs) (.ins C fs') st = ownM C g (.ins C fs) [.ins C fs'] st := by
    unfold binOD asI
    dsimp only
    rw [if_pos rfl]
  have := w_own (st := st) (C := C) (g := g) (fs := fs) (xs := [.ins C fs']) (P := P)
  unfold W at this ⊢
  rw [e]
  exact this
theorem turn_ok (hd : A.C_Jar ≠ A.C_Table) {ns : List Int} {i : Nat} (hi : i < 10) {Q : Fl → Sto → Prop} (hQ : Q (.nx [some (.fl (ns.map D.int)), none, none, none, none, none, none, none, none, none, none]) []) :
    W (sScope [1, 2, 3, 4, 5, 6, 7, 8, 9, 10] (sSeq (sAsg (eCall (g_ulaw_poolN1 A) (eCons (eVar 0) (eCons (eVar 1) eNil))) (gN 2)) (sSeq (sAsg (eOp2 addD (eC (.int 1)) (eCall (g_ulaw_draw A) (eCons (eVar 2) (eCons (eC (.int 6)) eNil)))) (gN 3)) (sSeq (sAsg (eCall (g_ulaw_kind A) (eCons (eVar 2) (eCons (eVar 3) eNil))) (gN 4)) (sSeq (sPar2 5 6 (eCons (eMake A.C_Table (g_Table_uuinituu A) (eCons (eVar 4) eNil)) (eCons (eCall (g_ulaw_first A) (eCons (eVar 4) (eCons (eVar 3) eNil))) eNil))) (sSeq (sIf (tOrD (eB (eOp2 neD (eCall (g_first_dispute A) (eCons (eVar 5) eNil)) (eVar 6))) (eB (eOp2 neD (eCall (g_passes A) (eCons (eVar 5) eNil)) (eOp2 isD (eVar 6) (eC .non))))) (sRet (eC (.bl false))) sNext) (sSeq (sAsg (eCall (g_dispute A) (eCons (eVar 5) eNil)) (gN 7)) (sSeq (sIf (eB (eOp2 neD (eOp2 isD (eVar 7) (eC .non)) (eOp2 isD (eVar 6) (eC .non)))) (sRet (eC (.bl false))) sNext) (sIf (eB (eOp2 nisD (eVar 7) (eC .non))) (sSeq (sAsg (eVar 7) (gT [(gN 8), (gN 9), (gN 10)])) (sSeq (sIf (tOrD (eB (eOp2 neD (eProp A.C_Jar (g_Jar_total A) (eVar 8)) (eC (.int 3)))) (eB (eOp2 neD (eProp A.C_Jar (g_Jar_size A) (eVar 8)) (eVar 3)))) (sRet (eC (.bl false))) sNext) (sSeq (sIf (eB (eOp2 eqD (eCall (g_last_of A) (eCons (eVar 5) (eCons (eVar 8) (eCons (eVar 9) eNil)))) (eCall (g_last_of A) (eCons (eVar 5) (eCons (eVar 8) (eCons (eVar 10) eNil)))))) (sRet (eC (.bl false))) sNext) (sSeq (sIf (eB (eOp2 nisD (eCall (g_is_dispute A) (eCons (eVar 5) (eCons (eVar 7) eNil))) (eC (.bl true)))) (sRet (eC (.bl false))) sNext) (sSeq (sIf (eB (eOp2 nisD (eCall (g_is_dispute A) (eCons (eVar 5) (eCons (eTup (eCons (eVar 8) (eCons (eVar 10) (eCons (eVar 9) eNil)))) eNil))) (eC (.bl true)))) (sRet (eC (.bl false))) sNext) (sSeq (sIf (eB (eOp2 nisD (eCall (g_is_dispute A) (eCons (eVar 5) (eCons (eTup (eCons (eVar 8) (eCons (eVar 9) (eCons (eVar 9) eNil)))) eNil))) (eC (.bl false)))) (sRet (eC (.bl false))) sNext) (sIf (eB (eOp2 nisD (eCall (g_is_dispute A) (eCons (eVar 5) (eCons (eTup (eCons (eOp2 (binOD A.C_Jar (g_Jar_uuadduu A)) (eVar 8) (eVar 8)) (eCons (eVar 9) (eCons (eVar 10) eNil)))) eNil))) (eC (.bl false)))) (sRet (eC (.bl false))) sNext))))))) sNext))))))))
      [some (.fl (ns.map D.int)), some (.int (i : Nat)), none, none, none, none, none, none, none, none, none]) [] Q := by
  refine w_scope ?_
  rw [w_seq]
  simp only [w_asg, w_eCall, w_cons, w_nil, w_var, List.getElem?_cons_zero, List.getElem?_cons_succ]
  refine pool_ok (k := i) (by omega) fun c0 z0 => ?_
  simp only [w_gN, List.set_cons_succ, List.set_cons_zero, List.nil_append, List.length_nil]
  rw [goOn_nx, w_seq]
  simp only [w_asg, w_op2, w_c, w_eCall, w_cons, w_nil, w_var, List.getElem?_cons_zero, List.getElem?_cons_succ]
  refine draw_ok ⟨_, _, rfl⟩ (by decide) (by decide) fun d c1 z1 h0 h1 => ?_
  simp only [w_add, w_gN, List.set_cons_succ, List.set_cons_zero]
  obtain ⟨n, hn⟩ : ∃ n : Nat, 1 + d = (n : Nat) := ⟨(1 + d).toNat, by omega⟩
  rw [hn, goOn_nx, w_seq]
  have n1 : 1 ≤ n := by omega
  have n8 : n ≤ 8 := by omega
  simp only [w_asg, w_eCall, w_cons, w_nil, w_var, List.getElem?_cons_zero, List.getElem?_cons_succ]
  refine kind_ok ⟨_, _, rfl⟩ (by omega) (by omega) fun c2 z2 t T => ?_
  simp only [w_gN, List.set_cons_succ, List.set_cons_zero]
  rw [goOn_nx, w_seq]
  refine w_par2 ?_
  simp only [w_cons, w_nil, w_eMake, w_eCall, w_var, List.getElem?_cons_zero, List.getElem?_cons_succ]
  refine table_make T n8 n1 ?_
  have hF : belowO 0 (some (.fl (ns.map D.int))) = true := by show belowD 0 _ = true; unfold belowD; exact below_fl
  have hN : belowO 0 none = true := rfl
  have fin : ∀ (x2 x3 x4 x5 x6 x7 x8 x9 x10 : Option D) (s : Sto), TrOk ([] : Sto).length [] s ∧ belowE ([] : Sto).length (unsetAll [some (.fl (ns.map D.int)), some (.int (i : Nat)), x2, x3, x4, x5, x6, x7, x8, x9, x10] [1, 2, 3, 4, 5, 6, 7, 8, 9, 10]) = true ∧ Q (.nx (unsetAll [some (.fl (ns.map D.int)), some (.int (i : Nat)), x2, x3, x4, x5, x6, x7, x8, x9, x10] [1, 2, 3, 4, 5, 6, 7, 8, 9, 10])) (s.take ([] : Sto).length) := fun x2 x3 x4 x5 x6 x7 x8 x9 x10 s => by
    refine ⟨⟨Nat.zero_le _, fun i c hi => absurd hi (Nat.not_lt_zero _)⟩, ?_, hQ⟩
    simp only [unsetAll, belowE, List.set_cons_succ, List.set_cons_zero, List.all_cons, List.all_nil, List.length_nil, hF, hN, Bool.and_true, Bool.and_self]
  refine law_first T n8 (fun g => ?_) (fun a b c g => ?_)
  · refine ⟨_, _, rfl, ?_⟩
    simp only [List.set_cons_succ, List.set_cons_zero]
    rw [goOn_nx, w_seq, w_sif, w_tor, w_eB]
    simp only [w_op2, w_eCall, w_cons, w_nil, w_var, List.getElem?_cons_zero, List.getElem?_cons_succ]
    refine first_no T n8 g ?_
    refine w_neS datR_non ?_
    rw [w_bD, if_neg (by simp), w_eB]
    simp only [w_op2, w_eCall, w_cons, w_nil, w_c, w_var, List.getElem?_cons_zero, List.getElem?_cons_succ]
    refine passes_no T n8 g ?_
    rw [w_isN, w_neB, w_bD, beq_self_eq_true, Bool.not_true, if_neg (by simp), DL.w_next, goOn_nx, w_seq]
    simp only [w_asg, w_eCall, w_cons, w_nil, w_var, List.getElem?_cons_zero, List.getElem?_cons_succ]
    refine dispute_no T n8 g ?_
    rw [w_gN]
    simp only [List.set_cons_succ, List.set_cons_zero]
    rw [goOn_nx, w_seq, w_sif, w_eB]
    simp only [w_op2, w_c, w_var, List.getElem?_cons_zero, List.getElem?_cons_succ, w_isN, w_neB, w_bD]
    rw [beq_self_eq_true, Bool.not_true, if_neg (by simp), DL.w_next, goOn_nx, w_sif, w_eB]
    simp only [w_op2, w_c, w_var, List.getElem?_cons_zero, List.getElem?_cons_succ, w_nisN, w_bD]
    rw [if_neg (by simp), DL.w_next]
    exact fin _ _ _ _ _ _ _ _ _ _
  · obtain ⟨l1, q1⟩ := tn T g.ha g.hb
    obtain ⟨l2, q2⟩ := tn T g.hb g.hc
    obtain ⟨m1, p1⟩ := tn T l1 g.hc
    obtain ⟨m2, p2⟩ := tn T g.ha l2
    have W1 := walk1 (A := A) hd T n8 g.ha g.hb g.hc
    have W2 := walk2 (A := A) hd T n8 g.ha g.hb g.hc
    have all3 : ∀ x ∈ [a, b, c], x < n := fun x hx => by
      simp only [List.mem_cons, List.not_mem_nil, or_false] at hx
      rcases hx with rfl | rfl | rfl
      · exact g.ha
      · exact g.hb
      · exact g.hc
    have other : ¬ (((t (t a b).toNat c).toNat : Nat) : Int) = ((t a (t b c).toNat).toNat : Nat) := fun z => by
      have y := g.yes
      unfold disp at y
      rw [p1, p2, decide_eq_true z] at y
      cases y
    have tdat : ∀ s : Sto, DatR s 8 (trip a b c) := fun s => datR_trip
    refine ⟨_, _, rfl, ?_⟩
    simp only [List.set_cons_succ, List.set_cons_zero]
    rw [goOn_nx, w_seq, w_sif, w_tor, w_eB]
    simp only [w_op2, w_eCall, w_cons, w_nil, w_var, List.getElem?_cons_zero, List.getElem?_cons_succ]
    refine first_yes T n8 g ?_
    refine w_neS (tdat _) ?_
    rw [w_bD, if_neg (by simp), w_eB]
    simp only [w_op2, w_eCall, w_cons, w_nil, w_c, w_var, List.getElem?_cons_zero, List.getElem?_cons_succ]
    refine passes_yes T n8 g ?_
    have isT : ∀ (s : Sto) (R : D → Sto → Prop), W (isD (trip a b c) .non) s R = R (.bl false) s := fun s R => w_isT
    rw [isT, w_neB, w_bD, beq_self_eq_true, Bool.not_true, if_neg (by simp), DL.w_next, goOn_nx, w_seq]
    simp only [w_asg, w_eCall, w_cons, w_nil, w_var, List.getElem?_cons_zero, List.getElem?_cons_succ]
    refine dispute_yes T n8 g ?_
    rw [w_gN]
    simp only [List.set_cons_succ, List.set_cons_zero]
    have isF : ∀ (s : Sto) (R : D → Sto → Prop), W (isD (dispD A n t a b c) .non) s R = R (.bl false) s := fun s R => w_isT
    have nisF : ∀ (s : Sto) (R : D → Sto → Prop), W (nisD (dispD A n t a b c) .non) s R = R (.bl true) s := fun s R => w_nisT
    rw [goOn_nx, w_seq, w_sif, w_eB]
    simp only [w_op2, w_c, w_var, List.getElem?_cons_zero, List.getElem?_cons_succ]
    rw [isF, isT, w_neB, w_bD, beq_self_eq_true, Bool.not_true, if_neg (by simp), DL.w_next, goOn_nx, w_sif, w_eB]
    simp only [w_op2, w_c, w_var, List.getElem?_cons_zero, List.getElem?_cons_succ]
    rw [nisF, w_bD, if_pos rfl, w_seq, w_asg, w_var]
    dsimp only [List.getElem?_cons_zero, List.getElem?_cons_succ]
    have gt3 : ∀ (δ : En) (s : Sto) (R : En → Sto → Prop), W (gT [gN 8, gN 9, gN 10] (dispD A n t a b c) δ) s R = R (((δ.set 8 (some (jarD A n (cnt [a, b, c])))).set 9 (some (.lst [dr a b, dr (t a b).toNat c]))).set 10 (some (.lst [dr b c, dr a (t b c).toNat]))) s := fun δ s R => w_gT3
    rw [gt3]
    simp only [List.set_cons_succ, List.set_cons_zero]
    generalize hw1 : D.lst [dr a b, dr (t a b).toNat c] = w1 at *
    generalize hw2 : D.lst [dr b c, dr a (t b c).toNat] = w2 at *
    rw [goOn_nx, w_seq, w_sif, w_tor, w_eB, w_op2, w_prop (fs := [("amounts", .tup (mapR n fun i => .int (cnt [a, b, c] i)))]) rfl]
    refine jar_total all3 ?_
    rw [w_c]
    refine w_neI' rfl ?_
    rw [w_bD, if_neg (by simp), w_eB, w_op2, w_prop (fs := [("amounts", .tup (mapR n fun i => .int (cnt [a, b, c] i)))]) rfl]
    refine jar_size ?_
    rw [w_var]
    dsimp only [List.getElem?_cons_zero, List.getElem?_cons_succ]
    refine w_neI' rfl ?_
    rw [w_bD, if_neg (by simp), DL.w_next, goOn_nx, w_seq, w_sif, w_eB]
    simp only [w_op2, w_eCall, w_cons, w_nil, w_var, List.getElem?_cons_zero, List.getElem?_cons_succ]
    rw [← hw1]
    refine last_ok hd n8 g.ha W1 m1 ?_
    rw [← hw2]
    refine last_ok hd n8 g.ha W2 m2 ?_
    rw [w_eqI, eqv_int, decide_eq_false other, w_bD, if_neg (by simp), DL.w_next, goOn_nx, w_seq, w_sif, w_eB]
    simp only [w_op2, w_eCall, w_cons, w_nil, w_c, w_tup, w_var, List.getElem?_cons_zero, List.getElem?_cons_succ]
    refine is_dispute_ok hd n8 all3 rfl W1 W2 m1 m2 ?_
    rw [decide_eq_false other, w_nisB, w_bD, Bool.not_false, beq_self_eq_true, Bool.not_true, if_neg (by simp), DL.w_next, goOn_nx, w_seq, w_sif, w_eB]
    simp only [w_op2, w_eCall, w_cons, w_nil, w_c, w_tup, w_var, List.getElem?_cons_zero, List.getElem?_cons_succ]
    refine ⟨three_le, is_dispute_ok hd n8 all3 rfl W2 W1 m2 m1 ?_⟩
    rw [decide_eq_false (fun z => other z.symm), w_nisB, w_bD, Bool.not_false, beq_self_eq_true, Bool.not_true, if_neg (by simp), DL.w_next, goOn_nx, w_seq, w_sif, w_eB]
    simp only [w_op2, w_eCall, w_cons, w_nil, w_c, w_tup, w_var, List.getElem?_cons_zero, List.getElem?_cons_succ]
    refine ⟨three_le, is_dispute_ok hd n8 all3 rfl W1 W1 m1 m1 ?_⟩
    rw [decide_eq_true rfl, w_nisB, w_bD, Bool.not_true, beq_self_eq_true, Bool.not_true, if_neg (by simp), DL.w_next, goOn_nx, w_sif, w_eB]
    simp only [w_op2, w_eCall, w_cons, w_nil, w_c, w_tup, w_var, List.getElem?_cons_zero, List.getElem?_cons_succ]
    have bin : ∀ (s : Sto) (R : D → Sto → Prop), W (binOD A.C_Jar (g_Jar_uuadduu A) (jarD A n (cnt [a, b, c])) (jarD A n (cnt [a, b, c]))) s R = W (g_Jar_uuadduu A [jarD A n (cnt [a, b, c]), jarD A n (cnt [a, b, c])]) s R := fun s R => w_binO
    rw [bin]
    refine add_ok n8 n1 (fun i _ => cnt_nonneg) (fun i _ => cnt_nonneg) ?_
    rw [cnt_twice]
    refine ⟨three_le, is_dispute_big (fun x hx => ?_) (by show (6 : Nat) ≠ 3; decide) ⟨below_two, below_two⟩ ?_⟩
    · rcases List.mem_append.mp hx with q | q
      · exact all3 x q
      · exact all3 x q
    rw [w_nisB, w_bD, beq_self_eq_true, Bool.not_true, if_neg (by simp), DL.w_next]
    exact fin _ _ _ _ _ _ _ _ _ _
end
theorem main_ok (A : As) (hd : A.C_Jar ≠ A.C_Table) : ∀ ns : List Int, ns.length ≤ 63 → ∃ st, g_law A [.fl (ns.map D.int)] [] = some (.ok (.bl true) st) := by
  intro ns hl
  have key : W (g_law A [.fl (ns.map D.int)]) [] (fun d _ => d = .bl true) := by
    refine w_callM rfl ?_
    rw [show startD 11 [D.fl (ns.map D.int)] = [some (.fl (ns.map D.int)), none, none, none, none, none, none, none, none, none, none] from rfl]
    unfold b_law
    rw [w_seq, w_for]
    refine w_src fun m hm => ?_
    refine w_forM (fun i δ s => δ = [some (.fl (ns.map D.int)), none, none, none, none, none, none, none, none, none, none] ∧ s = []) (fun i x δ s hx I => ?_) (fun δ s I => ?_) ⟨rfl, rfl⟩
    · obtain ⟨hi, rfl⟩ := rngD_getx hx
      rw [I.1, I.2, w_gN, Int.zero_add]
      simp only [List.set_cons_succ, List.set_cons_zero]
      exact turn_ok hd (by omega) ⟨rfl, rfl⟩
    · rw [I.1, I.2, goOn_nx, w_ret, w_and]
      simp only [w_eCall, w_cons, w_nil, w_eMake, w_lst, w_c]
      refine ⟨line_le (n := 1) (by decide), line_le (n := 1) (by decide), ?_⟩
      have T1 : Sym 1 (fun _ _ => 0) := ⟨fun _ _ _ _ => rfl, fun _ _ _ _ => Int.le_refl _, fun _ _ _ _ => by decide⟩
      have e1 : D.lst [.lst [.int 0]] = tabD 1 (fun _ _ => 0) := rfl
      rw [e1]
      refine table_make T1 (by decide) (by decide) ?_
      refine passes_no T1 (by decide) (fun x y z _ _ _ => rfl) ?_
      rw [w_bD, if_pos rfl, w_not]
      simp only [w_eCall, w_cons, w_nil, w_eMake, w_lst, w_c]
      refine ⟨line_le (n := 2) (by decide), line_le (n := 2) (by decide), line_le (n := 2) (by decide), ?_⟩
      have T2 : Sym 2 (fun a b => if a = 0 ∧ b = 0 then 1 else 0) := ⟨fun a b _ _ => by simp only [and_comm], fun a b _ _ => by split <;> decide, fun a b _ _ => by split <;> decide⟩
      have e2 : D.lst [.lst [.int 1, .int 0], .lst [.int 0, .int 0]] = tabD 2 (fun a b => if a = 0 ∧ b = 0 then 1 else 0) := rfl
      rw [e2]
      refine table_make T2 (by decide) (by decide) ?_
      refine passes_yes (a := 0) (b := 0) (c := 1) T2 (by decide) ⟨by decide, by decide, by decide, rfl, fun x y z h => absurd h (Nat.not_lt_zero _), fun y z h => absurd h (Nat.not_lt_zero _), fun z h => by
        have : z = 0 := by omega
        subst this; rfl⟩ ?_
      rw [w_bD]
      exact ⟨TrOk.rfl', .bl true, frz_bel rfl, rfl⟩
  unfold W at key
  cases e : g_law A [.fl (ns.map D.int)] [] with
  | none => rw [e] at key; exact key.elim
  | some r =>
    rw [e] at key
    cases r with
    | ok d s => dsimp only at key; rw [key]; exact ⟨s, rfl⟩
    | er C fs s => exact key.elim
end Law
end
namespace Law
open PySem PySem.Spec PyProof.Rows L2 DL
theorem all_mk {l : PySem.W.OpenLaw} {w : World} {K : PySem.W.Frag} {h : Heap} {mg : Str → Option Value} {fa : Addr} (X : K.In h) (G : h.Ns mainGlobals mg) (hfa : mg "law" = some (.ref fa)) {C_Jar : Addr} {C_Table : Addr} {f_ulaw_pool : Addr} {f_ulaw_draw : Addr} {f_ulaw_rows : Addr} {f_ulaw_kind : Addr} {f_Table_size : Addr} {pp_Table_size : Addr} {f_is_integer : Addr} {f_is_colour : Addr} {f_need_colours : Addr} {f_is_pair : Addr} {f_Table_uugetitemuu : Addr} {f_is_disputed : Addr} {f_first_dispute : Addr} {f_draw_of : Addr} {f_is_sequence : Addr} {f_is_count : Addr} {f_Jar_uuinituu : Addr} {f_Jar_of_beans : Addr} {pp_Jar_of_beans : Addr} {f_dispute : Addr} {f_passes : Addr} {f_first_wrong_place : Addr} {f_is_square : Addr} {f_Table_uuinituu : Addr} {f_ulaw_first : Addr} {f_Jar_size : Addr} {pp_Jar_size : Addr} {f_need_same_size : Addr} {f_Jar_uubooluu : Addr} {f_need_beans : Addr} {f_Jar_uucontainsuu : Addr} {f_Jar_can_draw : Addr} {f_Jar_counts : Addr} {f_after : Addr} {f_walked : Addr} {f_Jar_total : Addr} {pp_Jar_total : Addr} {f_played : Addr} {f_Jar_colours : Addr} {f_last_of : Addr} {f_is_way : Addr} {f_is_dispute : Addr} {f_Jar_uuadduu : Addr} {f_law : Addr} {rest_Table_size : List Value} {rest_Jar_of_beans : List Value} {rest_Jar_size : List Value} {rest_Jar_total : List Value} {tk_MOST_COLOURS : Tok} {oc_ulaw_pool kV_ulaw_pool dc_ulaw_pool pm_ulaw_pool cd_ulaw_pool ct_ulaw_pool : Value} {od_ulaw_pool an_ulaw_pool : Option Addr} {sl_ulaw_pool : Array (Option Value)} {oc_ulaw_draw kV_ulaw_draw dc_ulaw_draw pm_ulaw_draw cd_ulaw_draw ct_ulaw_draw : Value} {od_ulaw_draw an_ulaw_draw : Option Addr} {sl_ulaw_draw : Array (Option Value)} {oc_ulaw_rows kV_ulaw_rows dc_ulaw_rows pm_ulaw_rows cd_ulaw_rows ct_ulaw_rows : Value} {od_ulaw_rows an_ulaw_rows : Option Addr} {sl_ulaw_rows : Array (Option Value)} {oc_ulaw_kind kV_ulaw_kind dc_ulaw_kind pm_ulaw_kind cd_ulaw_kind ct_ulaw_kind : Value} {od_ulaw_kind an_ulaw_kind : Option Addr} {sl_ulaw_kind : Array (Option Value)} {oc_Table_size kV_Table_size dc_Table_size pm_Table_size cd_Table_size ct_Table_size : Value} {od_Table_size an_Table_size : Option Addr} {sl_Table_size : Array (Option Value)} {oc_is_integer kV_is_integer dc_is_integer pm_is_integer cd_is_integer ct_is_integer : Value} {od_is_integer an_is_integer : Option Addr} {sl_is_integer : Array (Option Value)} {oc_is_colour kV_is_colour dc_is_colour pm_is_colour cd_is_colour ct_is_colour : Value} {od_is_colour an_is_colour : Option Addr} {sl_is_colour : Array (Option Value)} {oc_need_colours kV_need_colours dc_need_colours pm_need_colours cd_need_colours ct_need_colours : Value} {od_need_colours an_need_colours : Option Addr} {sl_need_colours : Array (Option Value)} {oc_is_pair kV_is_pair dc_is_pair pm_is_pair cd_is_pair ct_is_pair : Value} {od_is_pair an_is_pair : Option Addr} {sl_is_pair : Array (Option Value)} {oc_Table_uugetitemuu kV_Table_uugetitemuu dc_Table_uugetitemuu pm_Table_uugetitemuu cd_Table_uugetitemuu ct_Table_uugetitemuu : Value} {od_Table_uugetitemuu an_Table_uugetitemuu : Option Addr} {sl_Table_uugetitemuu : Array (Option Value)} {oc_is_disputed kV_is_disputed dc_is_disputed pm_is_disputed cd_is_disputed ct_is_disputed : Value} {od_is_disputed an_is_disputed : Option Addr} {sl_is_disputed : Array (Option Value)} {oc_first_dispute kV_first_dispute dc_first_dispute pm_first_dispute cd_first_dispute ct_first_dispute : Value} {od_first_dispute an_first_dispute : Option Addr} {sl_first_dispute : Array (Option Value)} {oc_draw_of kV_draw_of dc_draw_of pm_draw_of cd_draw_of ct_draw_of : Value} {od_draw_of an_draw_of : Option Addr} {sl_draw_of : Array (Option Value)} {oc_is_sequence kV_is_sequence dc_is_sequence pm_is_sequence cd_is_sequence ct_is_sequence : Value} {od_is_sequence an_is_sequence : Option Addr} {sl_is_sequence : Array (Option Value)} {oc_is_count kV_is_count dc_is_count pm_is_count cd_is_count ct_is_count : Value} {od_is_count an_is_count : Option Addr} {sl_is_count : Array (Option Value)} {oc_Jar_uuinituu kV_Jar_uuinituu dc_Jar_uuinituu pm_Jar_uuinituu cd_Jar_uuinituu ct_Jar_uuinituu : Value} {od_Jar_uuinituu an_Jar_uuinituu : Option Addr} {sl_Jar_uuinituu : Array (Option Value)} {oc_Jar_of_beans kV_Jar_of_beans dc_Jar_of_beans pm_Jar_of_beans cd_Jar_of_beans ct_Jar_of_beans : Value} {od_Jar_of_beans an_Jar_of_beans : Option Addr} {sl_Jar_of_beans : Array (Option Value)} {oc_dispute kV_dispute dc_dispute pm_dispute cd_dispute ct_dispute : Value} {od_dispute an_dispute : Option Addr} {sl_dispute : Array (Option Value)} {oc_passes kV_passes dc_passes pm_passes cd_passes ct_passes : Value} {od_passes an_passes : Option Addr} {sl_passes : Array (Option Value)} {oc_first_wrong_place kV_first_wrong_place dc_first_wrong_place pm_first_wrong_place cd_first_wrong_place ct_first_wrong_place : Value} {od_first_wrong_place an_first_wrong_place : Option Addr} {sl_first_wrong_place : Array (Option Value)} {oc_is_square kV_is_square dc_is_square pm_is_square cd_is_square ct_is_square : Value} {od_is_square an_is_square : Option Addr} {sl_is_square : Array (Option Value)} {oc_Table_uuinituu kV_Table_uuinituu dc_Table_uuinituu pm_Table_uuinituu cd_Table_uuinituu ct_Table_uuinituu : Value} {od_Table_uuinituu an_Table_uuinituu : Option Addr} {sl_Table_uuinituu : Array (Option Value)} {oc_ulaw_first kV_ulaw_first dc_ulaw_first pm_ulaw_first cd_ulaw_first ct_ulaw_first : Value} {od_ulaw_first an_ulaw_first : Option Addr} {sl_ulaw_first : Array (Option Value)} {oc_Jar_size kV_Jar_size dc_Jar_size pm_Jar_size cd_Jar_size ct_Jar_size : Value} {od_Jar_size an_Jar_size : Option Addr} {sl_Jar_size : Array (Option Value)} {oc_need_same_size kV_need_same_size dc_need_same_size pm_need_same_size cd_need_same_size ct_need_same_size : Value} {od_need_same_size an_need_same_size : Option Addr} {sl_need_same_size : Array (Option Value)} {oc_Jar_uubooluu kV_Jar_uubooluu dc_Jar_uubooluu pm_Jar_uubooluu cd_Jar_uubooluu ct_Jar_uubooluu : Value} {od_Jar_uubooluu an_Jar_uubooluu : Option Addr} {sl_Jar_uubooluu : Array (Option Value)} {oc_need_beans kV_need_beans dc_need_beans pm_need_beans cd_need_beans ct_need_beans : Value} {od_need_beans an_need_beans : Option Addr} {sl_need_beans : Array (Option Value)} {oc_Jar_uucontainsuu kV_Jar_uucontainsuu dc_Jar_uucontainsuu pm_Jar_uucontainsuu cd_Jar_uucontainsuu ct_Jar_uucontainsuu : Value} {od_Jar_uucontainsuu an_Jar_uucontainsuu : Option Addr} {sl_Jar_uucontainsuu : Array (Option Value)} {oc_Jar_can_draw kV_Jar_can_draw dc_Jar_can_draw pm_Jar_can_draw cd_Jar_can_draw ct_Jar_can_draw : Value} {od_Jar_can_draw an_Jar_can_draw : Option Addr} {sl_Jar_can_draw : Array (Option Value)} {oc_Jar_counts kV_Jar_counts dc_Jar_counts pm_Jar_counts cd_Jar_counts ct_Jar_counts : Value} {od_Jar_counts an_Jar_counts : Option Addr} {sl_Jar_counts : Array (Option Value)} {oc_after kV_after dc_after pm_after cd_after ct_after : Value} {od_after an_after : Option Addr} {sl_after : Array (Option Value)} {oc_walked kV_walked dc_walked pm_walked cd_walked ct_walked : Value} {od_walked an_walked : Option Addr} {sl_walked : Array (Option Value)} {oc_Jar_total kV_Jar_total dc_Jar_total pm_Jar_total cd_Jar_total ct_Jar_total : Value} {od_Jar_total an_Jar_total : Option Addr} {sl_Jar_total : Array (Option Value)} {oc_played kV_played dc_played pm_played cd_played ct_played : Value} {od_played an_played : Option Addr} {sl_played : Array (Option Value)} {oc_Jar_colours kV_Jar_colours dc_Jar_colours pm_Jar_colours cd_Jar_colours ct_Jar_colours : Value} {od_Jar_colours an_Jar_colours : Option Addr} {sl_Jar_colours : Array (Option Value)} {oc_last_of kV_last_of dc_last_of pm_last_of cd_last_of ct_last_of : Value} {od_last_of an_last_of : Option Addr} {sl_last_of : Array (Option Value)} {oc_is_way kV_is_way dc_is_way pm_is_way cd_is_way ct_is_way : Value} {od_is_way an_is_way : Option Addr} {sl_is_way : Array (Option Value)} {oc_is_dispute kV_is_dispute dc_is_dispute pm_is_dispute cd_is_dispute ct_is_dispute : Value} {od_is_dispute an_is_dispute : Option Addr} {sl_is_dispute : Array (Option Value)} {oc_Jar_uuadduu kV_Jar_uuadduu dc_Jar_uuadduu pm_Jar_uuadduu cd_Jar_uuadduu ct_Jar_uuadduu : Value} {od_Jar_uuadduu an_Jar_uuadduu : Option Addr} {sl_Jar_uuadduu : Array (Option Value)} {oc_law kV_law dc_law pm_law cd_law ct_law : Value} {od_law an_law : Option Addr} {sl_law : Array (Option Value)}
    (gc_Jar : PySem.W.nsIn K mainGlobals "Jar" = some (some (.ref C_Jar)))
    (i1_Jar : PySem.W.plainGet K C_Jar Str.empty = true)
    (i2_Jar : PySem.W.hasDictIn K C_Jar = true)
    (i3_Jar : PySem.W.plainOver K C_Jar = true)
    (i4_Jar : PySem.W.findIn K (.ref C_Jar) "__setattr__" = some (some (.builtin "object.__setattr__")))
    (i5_Jar : PySem.W.findIn K (.ref C_Jar) "__class__" = some (some (.builtin "object.__class__")))
    (i6_Jar : PySem.W.specialIn K (.builtin "object.__class__") "__get__" = some (some (.builtin "getset_descriptor.__get__")))
    (i7_Jar : PySem.W.takesIn K (.builtin "object.__class__") = some true)
    (i8_Jar : PySem.W.mroIn K C_Jar (.type "object") = some true)
    (gc_Table : PySem.W.nsIn K mainGlobals "Table" = some (some (.ref C_Table)))
    (i1_Table : PySem.W.plainGet K C_Table Str.empty = true)
    (i2_Table : PySem.W.hasDictIn K C_Table = true)
    (i3_Table : PySem.W.plainOver K C_Table = true)
    (i4_Table : PySem.W.findIn K (.ref C_Table) "__setattr__" = some (some (.builtin "object.__setattr__")))
    (i5_Table : PySem.W.findIn K (.ref C_Table) "__class__" = some (some (.builtin "object.__class__")))
    (i6_Table : PySem.W.specialIn K (.builtin "object.__class__") "__get__" = some (some (.builtin "getset_descriptor.__get__")))
    (i7_Table : PySem.W.takesIn K (.builtin "object.__class__") = some true)
    (i8_Table : PySem.W.mroIn K C_Table (.type "object") = some true)
    (a_ulaw_pool : PySem.W.nsIn K mainGlobals "_law_pool" = some (some (.ref f_ulaw_pool)))
    (l_ulaw_pool : K.lookup f_ulaw_pool = some ⟨oc_ulaw_pool, od_ulaw_pool, .func (PySem.W.fnOf "_law_pool" "_law_pool" (defArgs s_ulaw_pool) (defBody s_ulaw_pool) (defScope s_ulaw_pool) .none kV_ulaw_pool dc_ulaw_pool pm_ulaw_pool an_ulaw_pool cd_ulaw_pool ct_ulaw_pool), sl_ulaw_pool⟩)
    (cc_ulaw_pool : PySem.W.codeIn K cd_ulaw_pool "_law_pool" = true)
    (k_ulaw_pool : PySem.W.keepIn K (.ref f_ulaw_pool) = true)
    (a_ulaw_draw : PySem.W.nsIn K mainGlobals "_law_draw" = some (some (.ref f_ulaw_draw)))
    (l_ulaw_draw : K.lookup f_ulaw_draw = some ⟨oc_ulaw_draw, od_ulaw_draw, .func (PySem.W.fnOf "_law_draw" "_law_draw" (defArgs s_ulaw_draw) (defBody s_ulaw_draw) (defScope s_ulaw_draw) .none kV_ulaw_draw dc_ulaw_draw pm_ulaw_draw an_ulaw_draw cd_ulaw_draw ct_ulaw_draw), sl_ulaw_draw⟩)
    (cc_ulaw_draw : PySem.W.codeIn K cd_ulaw_draw "_law_draw" = true)
    (k_ulaw_draw : PySem.W.keepIn K (.ref f_ulaw_draw) = true)
    (a_ulaw_rows : PySem.W.nsIn K mainGlobals "_law_rows" = some (some (.ref f_ulaw_rows)))
    (l_ulaw_rows : K.lookup f_ulaw_rows = some ⟨oc_ulaw_rows, od_ulaw_rows, .func (PySem.W.fnOf "_law_rows" "_law_rows" (defArgs s_ulaw_rows) (defBody s_ulaw_rows) (defScope s_ulaw_rows) .none kV_ulaw_rows dc_ulaw_rows pm_ulaw_rows an_ulaw_rows cd_ulaw_rows ct_ulaw_rows), sl_ulaw_rows⟩)
    (cc_ulaw_rows : PySem.W.codeIn K cd_ulaw_rows "_law_rows" = true)
    (k_ulaw_rows : PySem.W.keepIn K (.ref f_ulaw_rows) = true)
    (a_ulaw_kind : PySem.W.nsIn K mainGlobals "_law_kind" = some (some (.ref f_ulaw_kind)))
    (l_ulaw_kind : K.lookup f_ulaw_kind = some ⟨oc_ulaw_kind, od_ulaw_kind, .func (PySem.W.fnOf "_law_kind" "_law_kind" (defArgs s_ulaw_kind) (defBody s_ulaw_kind) (defScope s_ulaw_kind) .none kV_ulaw_kind dc_ulaw_kind pm_ulaw_kind an_ulaw_kind cd_ulaw_kind ct_ulaw_kind), sl_ulaw_kind⟩)
    (cc_ulaw_kind : PySem.W.codeIn K cd_ulaw_kind "_law_kind" = true)
    (k_ulaw_kind : PySem.W.keepIn K (.ref f_ulaw_kind) = true)
    (a_Table_size : PySem.W.findIn K (.ref C_Table) "size" = some (some (.ref pp_Table_size)))
    (b_Table_size : PySem.W.specialIn K (.ref pp_Table_size) "__get__" = some (some (.builtin "property.__get__")))
    (c_Table_size : PySem.W.takesIn K (.ref pp_Table_size) = some true)
    (d_Table_size : PySem.W.recIn K pp_Table_size "property" = some (.ref f_Table_size :: rest_Table_size))
    (l_Table_size : K.lookup f_Table_size = some ⟨oc_Table_size, od_Table_size, .func (PySem.W.fnOf "size" "Table.size" (defArgs s_Table_size) (defBody s_Table_size) (defScope s_Table_size) .none kV_Table_size dc_Table_size pm_Table_size an_Table_size cd_Table_size ct_Table_size), sl_Table_size⟩)
    (cc_Table_size : PySem.W.codeIn K cd_Table_size "Table.size" = true)
    (k_Table_size : PySem.W.keepIn K (.ref f_Table_size) = true)
    (a_is_integer : PySem.W.nsIn K mainGlobals "is_integer" = some (some (.ref f_is_integer)))
    (l_is_integer : K.lookup f_is_integer = some ⟨oc_is_integer, od_is_integer, .func (PySem.W.fnOf "is_integer" "is_integer" (defArgs s_is_integer) (defBody s_is_integer) (defScope s_is_integer) .none kV_is_integer dc_is_integer pm_is_integer an_is_integer cd_is_integer ct_is_integer), sl_is_integer⟩)
    (cc_is_integer : PySem.W.codeIn K cd_is_integer "is_integer" = true)
    (k_is_integer : PySem.W.keepIn K (.ref f_is_integer) = true)
    (a_is_colour : PySem.W.nsIn K mainGlobals "is_colour" = some (some (.ref f_is_colour)))
    (l_is_colour : K.lookup f_is_colour = some ⟨oc_is_colour, od_is_colour, .func (PySem.W.fnOf "is_colour" "is_colour" (defArgs s_is_colour) (defBody s_is_colour) (defScope s_is_colour) .none kV_is_colour dc_is_colour pm_is_colour an_is_colour cd_is_colour ct_is_colour), sl_is_colour⟩)
    (cc_is_colour : PySem.W.codeIn K cd_is_colour "is_colour" = true)
    (k_is_colour : PySem.W.keepIn K (.ref f_is_colour) = true)
    (a_need_colours : PySem.W.nsIn K mainGlobals "need_colours" = some (some (.ref f_need_colours)))
    (l_need_colours : K.lookup f_need_colours = some ⟨oc_need_colours, od_need_colours, .func (PySem.W.fnOf "need_colours" "need_colours" (defArgs s_need_colours) (defBody s_need_colours) (defScope s_need_colours) .none kV_need_colours dc_need_colours pm_need_colours an_need_colours cd_need_colours ct_need_colours), sl_need_colours⟩)
    (cc_need_colours : PySem.W.codeIn K cd_need_colours "need_colours" = true)
    (k_need_colours : PySem.W.keepIn K (.ref f_need_colours) = true)
    (a_is_pair : PySem.W.nsIn K mainGlobals "is_pair" = some (some (.ref f_is_pair)))
    (l_is_pair : K.lookup f_is_pair = some ⟨oc_is_pair, od_is_pair, .func (PySem.W.fnOf "is_pair" "is_pair" (defArgs s_is_pair) (defBody s_is_pair) (defScope s_is_pair) .none kV_is_pair dc_is_pair pm_is_pair an_is_pair cd_is_pair ct_is_pair), sl_is_pair⟩)
    (cc_is_pair : PySem.W.codeIn K cd_is_pair "is_pair" = true)
    (k_is_pair : PySem.W.keepIn K (.ref f_is_pair) = true)
    (a_Table_uugetitemuu : PySem.W.findIn K (.ref C_Table) "__getitem__" = some (some (.ref f_Table_uugetitemuu)))
    (j_Table_uugetitemuu : PySem.W.isFn K (.ref f_Table_uugetitemuu) = true)
    (l_Table_uugetitemuu : K.lookup f_Table_uugetitemuu = some ⟨oc_Table_uugetitemuu, od_Table_uugetitemuu, .func (PySem.W.fnOf "__getitem__" "Table.__getitem__" (defArgs s_Table_uugetitemuu) (defBody s_Table_uugetitemuu) (defScope s_Table_uugetitemuu) .none kV_Table_uugetitemuu dc_Table_uugetitemuu pm_Table_uugetitemuu an_Table_uugetitemuu cd_Table_uugetitemuu ct_Table_uugetitemuu), sl_Table_uugetitemuu⟩)
    (cc_Table_uugetitemuu : PySem.W.codeIn K cd_Table_uugetitemuu "Table.__getitem__" = true)
    (k_Table_uugetitemuu : PySem.W.keepIn K (.ref f_Table_uugetitemuu) = true)
    (a_is_disputed : PySem.W.nsIn K mainGlobals "is_disputed" = some (some (.ref f_is_disputed)))
    (l_is_disputed : K.lookup f_is_disputed = some ⟨oc_is_disputed, od_is_disputed, .func (PySem.W.fnOf "is_disputed" "is_disputed" (defArgs s_is_disputed) (defBody s_is_disputed) (defScope s_is_disputed) .none kV_is_disputed dc_is_disputed pm_is_disputed an_is_disputed cd_is_disputed ct_is_disputed), sl_is_disputed⟩)
    (cc_is_disputed : PySem.W.codeIn K cd_is_disputed "is_disputed" = true)
    (k_is_disputed : PySem.W.keepIn K (.ref f_is_disputed) = true)
    (a_first_dispute : PySem.W.nsIn K mainGlobals "first_dispute" = some (some (.ref f_first_dispute)))
    (l_first_dispute : K.lookup f_first_dispute = some ⟨oc_first_dispute, od_first_dispute, .func (PySem.W.fnOf "first_dispute" "first_dispute" (defArgs s_first_dispute) (defBody s_first_dispute) (defScope s_first_dispute) .none kV_first_dispute dc_first_dispute pm_first_dispute an_first_dispute cd_first_dispute ct_first_dispute), sl_first_dispute⟩)
    (cc_first_dispute : PySem.W.codeIn K cd_first_dispute "first_dispute" = true)
    (k_first_dispute : PySem.W.keepIn K (.ref f_first_dispute) = true)
    (a_draw_of : PySem.W.nsIn K mainGlobals "draw_of" = some (some (.ref f_draw_of)))
    (l_draw_of : K.lookup f_draw_of = some ⟨oc_draw_of, od_draw_of, .func (PySem.W.fnOf "draw_of" "draw_of" (defArgs s_draw_of) (defBody s_draw_of) (defScope s_draw_of) .none kV_draw_of dc_draw_of pm_draw_of an_draw_of cd_draw_of ct_draw_of), sl_draw_of⟩)
    (cc_draw_of : PySem.W.codeIn K cd_draw_of "draw_of" = true)
    (k_draw_of : PySem.W.keepIn K (.ref f_draw_of) = true)
    (a_is_sequence : PySem.W.nsIn K mainGlobals "is_sequence" = some (some (.ref f_is_sequence)))
    (l_is_sequence : K.lookup f_is_sequence = some ⟨oc_is_sequence, od_is_sequence, .func (PySem.W.fnOf "is_sequence" "is_sequence" (defArgs s_is_sequence) (defBody s_is_sequence) (defScope s_is_sequence) .none kV_is_sequence dc_is_sequence pm_is_sequence an_is_sequence cd_is_sequence ct_is_sequence), sl_is_sequence⟩)
    (cc_is_sequence : PySem.W.codeIn K cd_is_sequence "is_sequence" = true)
    (k_is_sequence : PySem.W.keepIn K (.ref f_is_sequence) = true)
    (a_is_count : PySem.W.nsIn K mainGlobals "is_count" = some (some (.ref f_is_count)))
    (l_is_count : K.lookup f_is_count = some ⟨oc_is_count, od_is_count, .func (PySem.W.fnOf "is_count" "is_count" (defArgs s_is_count) (defBody s_is_count) (defScope s_is_count) .none kV_is_count dc_is_count pm_is_count an_is_count cd_is_count ct_is_count), sl_is_count⟩)
    (cc_is_count : PySem.W.codeIn K cd_is_count "is_count" = true)
    (k_is_count : PySem.W.keepIn K (.ref f_is_count) = true)
    (a_Jar_uuinituu : PySem.W.findIn K (.ref C_Jar) "__init__" = some (some (.ref f_Jar_uuinituu)))
    (j_Jar_uuinituu : PySem.W.isFn K (.ref f_Jar_uuinituu) = true)
    (l_Jar_uuinituu : K.lookup f_Jar_uuinituu = some ⟨oc_Jar_uuinituu, od_Jar_uuinituu, .func (PySem.W.fnOf "__init__" "Jar.__init__" (defArgs s_Jar_uuinituu) (defBody s_Jar_uuinituu) (defScope s_Jar_uuinituu) .none kV_Jar_uuinituu dc_Jar_uuinituu pm_Jar_uuinituu an_Jar_uuinituu cd_Jar_uuinituu ct_Jar_uuinituu), sl_Jar_uuinituu⟩)
    (cc_Jar_uuinituu : PySem.W.codeIn K cd_Jar_uuinituu "Jar.__init__" = true)
    (k_Jar_uuinituu : PySem.W.keepIn K (.ref f_Jar_uuinituu) = true)
    (a_Jar_of_beans : PySem.W.findCls K (.ref C_Jar) (.type "type") "of_beans" = some (.get (.builtin "classmethod.__get__") (.ref pp_Jar_of_beans) .none (.ref C_Jar)))
    (d_Jar_of_beans : PySem.W.recIn K pp_Jar_of_beans "classmethod" = some (.ref f_Jar_of_beans :: rest_Jar_of_beans))
    (c_Jar_of_beans : PySem.W.fnIn K f_Jar_of_beans = true)
    (l_Jar_of_beans : K.lookup f_Jar_of_beans = some ⟨oc_Jar_of_beans, od_Jar_of_beans, .func (PySem.W.fnOf "of_beans" "Jar.of_beans" (defArgs s_Jar_of_beans) (defBody s_Jar_of_beans) (defScope s_Jar_of_beans) .none kV_Jar_of_beans dc_Jar_of_beans pm_Jar_of_beans an_Jar_of_beans cd_Jar_of_beans ct_Jar_of_beans), sl_Jar_of_beans⟩)
    (cc_Jar_of_beans : PySem.W.codeIn K cd_Jar_of_beans "Jar.of_beans" = true)
    (k_Jar_of_beans : PySem.W.keepIn K (.ref f_Jar_of_beans) = true)
    (a_dispute : PySem.W.nsIn K mainGlobals "dispute" = some (some (.ref f_dispute)))
    (l_dispute : K.lookup f_dispute = some ⟨oc_dispute, od_dispute, .func (PySem.W.fnOf "dispute" "dispute" (defArgs s_dispute) (defBody s_dispute) (defScope s_dispute) .none kV_dispute dc_dispute pm_dispute an_dispute cd_dispute ct_dispute), sl_dispute⟩)
    (cc_dispute : PySem.W.codeIn K cd_dispute "dispute" = true)
    (k_dispute : PySem.W.keepIn K (.ref f_dispute) = true)
    (a_passes : PySem.W.nsIn K mainGlobals "passes" = some (some (.ref f_passes)))
    (l_passes : K.lookup f_passes = some ⟨oc_passes, od_passes, .func (PySem.W.fnOf "passes" "passes" (defArgs s_passes) (defBody s_passes) (defScope s_passes) .none kV_passes dc_passes pm_passes an_passes cd_passes ct_passes), sl_passes⟩)
    (cc_passes : PySem.W.codeIn K cd_passes "passes" = true)
    (k_passes : PySem.W.keepIn K (.ref f_passes) = true)
    (a_first_wrong_place : PySem.W.nsIn K mainGlobals "first_wrong_place" = some (some (.ref f_first_wrong_place)))
    (l_first_wrong_place : K.lookup f_first_wrong_place = some ⟨oc_first_wrong_place, od_first_wrong_place, .func (PySem.W.fnOf "first_wrong_place" "first_wrong_place" (defArgs s_first_wrong_place) (defBody s_first_wrong_place) (defScope s_first_wrong_place) .none kV_first_wrong_place dc_first_wrong_place pm_first_wrong_place an_first_wrong_place cd_first_wrong_place ct_first_wrong_place), sl_first_wrong_place⟩)
    (cc_first_wrong_place : PySem.W.codeIn K cd_first_wrong_place "first_wrong_place" = true)
    (k_first_wrong_place : PySem.W.keepIn K (.ref f_first_wrong_place) = true)
    (a_is_square : PySem.W.nsIn K mainGlobals "is_square" = some (some (.ref f_is_square)))
    (l_is_square : K.lookup f_is_square = some ⟨oc_is_square, od_is_square, .func (PySem.W.fnOf "is_square" "is_square" (defArgs s_is_square) (defBody s_is_square) (defScope s_is_square) .none kV_is_square dc_is_square pm_is_square an_is_square cd_is_square ct_is_square), sl_is_square⟩)
    (cc_is_square : PySem.W.codeIn K cd_is_square "is_square" = true)
    (k_is_square : PySem.W.keepIn K (.ref f_is_square) = true)
    (a_Table_uuinituu : PySem.W.findIn K (.ref C_Table) "__init__" = some (some (.ref f_Table_uuinituu)))
    (j_Table_uuinituu : PySem.W.isFn K (.ref f_Table_uuinituu) = true)
    (l_Table_uuinituu : K.lookup f_Table_uuinituu = some ⟨oc_Table_uuinituu, od_Table_uuinituu, .func (PySem.W.fnOf "__init__" "Table.__init__" (defArgs s_Table_uuinituu) (defBody s_Table_uuinituu) (defScope s_Table_uuinituu) .none kV_Table_uuinituu dc_Table_uuinituu pm_Table_uuinituu an_Table_uuinituu cd_Table_uuinituu ct_Table_uuinituu), sl_Table_uuinituu⟩)
    (cc_Table_uuinituu : PySem.W.codeIn K cd_Table_uuinituu "Table.__init__" = true)
    (k_Table_uuinituu : PySem.W.keepIn K (.ref f_Table_uuinituu) = true)
    (a_ulaw_first : PySem.W.nsIn K mainGlobals "_law_first" = some (some (.ref f_ulaw_first)))
    (l_ulaw_first : K.lookup f_ulaw_first = some ⟨oc_ulaw_first, od_ulaw_first, .func (PySem.W.fnOf "_law_first" "_law_first" (defArgs s_ulaw_first) (defBody s_ulaw_first) (defScope s_ulaw_first) .none kV_ulaw_first dc_ulaw_first pm_ulaw_first an_ulaw_first cd_ulaw_first ct_ulaw_first), sl_ulaw_first⟩)
    (cc_ulaw_first : PySem.W.codeIn K cd_ulaw_first "_law_first" = true)
    (k_ulaw_first : PySem.W.keepIn K (.ref f_ulaw_first) = true)
    (a_Jar_size : PySem.W.findIn K (.ref C_Jar) "size" = some (some (.ref pp_Jar_size)))
    (b_Jar_size : PySem.W.specialIn K (.ref pp_Jar_size) "__get__" = some (some (.builtin "property.__get__")))
    (c_Jar_size : PySem.W.takesIn K (.ref pp_Jar_size) = some true)
    (d_Jar_size : PySem.W.recIn K pp_Jar_size "property" = some (.ref f_Jar_size :: rest_Jar_size))
    (l_Jar_size : K.lookup f_Jar_size = some ⟨oc_Jar_size, od_Jar_size, .func (PySem.W.fnOf "size" "Jar.size" (defArgs s_Jar_size) (defBody s_Jar_size) (defScope s_Jar_size) .none kV_Jar_size dc_Jar_size pm_Jar_size an_Jar_size cd_Jar_size ct_Jar_size), sl_Jar_size⟩)
    (cc_Jar_size : PySem.W.codeIn K cd_Jar_size "Jar.size" = true)
    (k_Jar_size : PySem.W.keepIn K (.ref f_Jar_size) = true)
    (a_need_same_size : PySem.W.nsIn K mainGlobals "need_same_size" = some (some (.ref f_need_same_size)))
    (l_need_same_size : K.lookup f_need_same_size = some ⟨oc_need_same_size, od_need_same_size, .func (PySem.W.fnOf "need_same_size" "need_same_size" (defArgs s_need_same_size) (defBody s_need_same_size) (defScope s_need_same_size) .none kV_need_same_size dc_need_same_size pm_need_same_size an_need_same_size cd_need_same_size ct_need_same_size), sl_need_same_size⟩)
    (cc_need_same_size : PySem.W.codeIn K cd_need_same_size "need_same_size" = true)
    (k_need_same_size : PySem.W.keepIn K (.ref f_need_same_size) = true)
    (a_Jar_uubooluu : PySem.W.findIn K (.ref C_Jar) "__bool__" = some (some (.ref f_Jar_uubooluu)))
    (j_Jar_uubooluu : PySem.W.isFn K (.ref f_Jar_uubooluu) = true)
    (l_Jar_uubooluu : K.lookup f_Jar_uubooluu = some ⟨oc_Jar_uubooluu, od_Jar_uubooluu, .func (PySem.W.fnOf "__bool__" "Jar.__bool__" (defArgs s_Jar_uubooluu) (defBody s_Jar_uubooluu) (defScope s_Jar_uubooluu) .none kV_Jar_uubooluu dc_Jar_uubooluu pm_Jar_uubooluu an_Jar_uubooluu cd_Jar_uubooluu ct_Jar_uubooluu), sl_Jar_uubooluu⟩)
    (cc_Jar_uubooluu : PySem.W.codeIn K cd_Jar_uubooluu "Jar.__bool__" = true)
    (k_Jar_uubooluu : PySem.W.keepIn K (.ref f_Jar_uubooluu) = true)
    (a_need_beans : PySem.W.nsIn K mainGlobals "need_beans" = some (some (.ref f_need_beans)))
    (l_need_beans : K.lookup f_need_beans = some ⟨oc_need_beans, od_need_beans, .func (PySem.W.fnOf "need_beans" "need_beans" (defArgs s_need_beans) (defBody s_need_beans) (defScope s_need_beans) .none kV_need_beans dc_need_beans pm_need_beans an_need_beans cd_need_beans ct_need_beans), sl_need_beans⟩)
    (cc_need_beans : PySem.W.codeIn K cd_need_beans "need_beans" = true)
    (k_need_beans : PySem.W.keepIn K (.ref f_need_beans) = true)
    (a_Jar_uucontainsuu : PySem.W.findIn K (.ref C_Jar) "__contains__" = some (some (.ref f_Jar_uucontainsuu)))
    (j_Jar_uucontainsuu : PySem.W.isFn K (.ref f_Jar_uucontainsuu) = true)
    (l_Jar_uucontainsuu : K.lookup f_Jar_uucontainsuu = some ⟨oc_Jar_uucontainsuu, od_Jar_uucontainsuu, .func (PySem.W.fnOf "__contains__" "Jar.__contains__" (defArgs s_Jar_uucontainsuu) (defBody s_Jar_uucontainsuu) (defScope s_Jar_uucontainsuu) .none kV_Jar_uucontainsuu dc_Jar_uucontainsuu pm_Jar_uucontainsuu an_Jar_uucontainsuu cd_Jar_uucontainsuu ct_Jar_uucontainsuu), sl_Jar_uucontainsuu⟩)
    (cc_Jar_uucontainsuu : PySem.W.codeIn K cd_Jar_uucontainsuu "Jar.__contains__" = true)
    (k_Jar_uucontainsuu : PySem.W.keepIn K (.ref f_Jar_uucontainsuu) = true)
    (a_Jar_can_draw : PySem.W.findIn K (.ref C_Jar) "can_draw" = some (some (.ref f_Jar_can_draw)))
    (j_Jar_can_draw : PySem.W.isFn K (.ref f_Jar_can_draw) = true)
    (l_Jar_can_draw : K.lookup f_Jar_can_draw = some ⟨oc_Jar_can_draw, od_Jar_can_draw, .func (PySem.W.fnOf "can_draw" "Jar.can_draw" (defArgs s_Jar_can_draw) (defBody s_Jar_can_draw) (defScope s_Jar_can_draw) .none kV_Jar_can_draw dc_Jar_can_draw pm_Jar_can_draw an_Jar_can_draw cd_Jar_can_draw ct_Jar_can_draw), sl_Jar_can_draw⟩)
    (cc_Jar_can_draw : PySem.W.codeIn K cd_Jar_can_draw "Jar.can_draw" = true)
    (k_Jar_can_draw : PySem.W.keepIn K (.ref f_Jar_can_draw) = true)
    (a_Jar_counts : PySem.W.findIn K (.ref C_Jar) "counts" = some (some (.ref f_Jar_counts)))
    (j_Jar_counts : PySem.W.isFn K (.ref f_Jar_counts) = true)
    (l_Jar_counts : K.lookup f_Jar_counts = some ⟨oc_Jar_counts, od_Jar_counts, .func (PySem.W.fnOf "counts" "Jar.counts" (defArgs s_Jar_counts) (defBody s_Jar_counts) (defScope s_Jar_counts) .none kV_Jar_counts dc_Jar_counts pm_Jar_counts an_Jar_counts cd_Jar_counts ct_Jar_counts), sl_Jar_counts⟩)
    (cc_Jar_counts : PySem.W.codeIn K cd_Jar_counts "Jar.counts" = true)
    (k_Jar_counts : PySem.W.keepIn K (.ref f_Jar_counts) = true)
    (a_after : PySem.W.nsIn K mainGlobals "after" = some (some (.ref f_after)))
    (l_after : K.lookup f_after = some ⟨oc_after, od_after, .func (PySem.W.fnOf "after" "after" (defArgs s_after) (defBody s_after) (defScope s_after) .none kV_after dc_after pm_after an_after cd_after ct_after), sl_after⟩)
    (cc_after : PySem.W.codeIn K cd_after "after" = true)
    (k_after : PySem.W.keepIn K (.ref f_after) = true)
    (a_walked : PySem.W.nsIn K mainGlobals "walked" = some (some (.ref f_walked)))
    (l_walked : K.lookup f_walked = some ⟨oc_walked, od_walked, .func (PySem.W.fnOf "walked" "walked" (defArgs s_walked) (defBody s_walked) (defScope s_walked) .none kV_walked dc_walked pm_walked an_walked cd_walked ct_walked), sl_walked⟩)
    (cc_walked : PySem.W.codeIn K cd_walked "walked" = true)
    (k_walked : PySem.W.keepIn K (.ref f_walked) = true)
    (a_Jar_total : PySem.W.findIn K (.ref C_Jar) "total" = some (some (.ref pp_Jar_total)))
    (b_Jar_total : PySem.W.specialIn K (.ref pp_Jar_total) "__get__" = some (some (.builtin "property.__get__")))
    (c_Jar_total : PySem.W.takesIn K (.ref pp_Jar_total) = some true)
    (d_Jar_total : PySem.W.recIn K pp_Jar_total "property" = some (.ref f_Jar_total :: rest_Jar_total))
    (l_Jar_total : K.lookup f_Jar_total = some ⟨oc_Jar_total, od_Jar_total, .func (PySem.W.fnOf "total" "Jar.total" (defArgs s_Jar_total) (defBody s_Jar_total) (defScope s_Jar_total) .none kV_Jar_total dc_Jar_total pm_Jar_total an_Jar_total cd_Jar_total ct_Jar_total), sl_Jar_total⟩)
    (cc_Jar_total : PySem.W.codeIn K cd_Jar_total "Jar.total" = true)
    (k_Jar_total : PySem.W.keepIn K (.ref f_Jar_total) = true)
    (a_played : PySem.W.nsIn K mainGlobals "played" = some (some (.ref f_played)))
    (l_played : K.lookup f_played = some ⟨oc_played, od_played, .func (PySem.W.fnOf "played" "played" (defArgs s_played) (defBody s_played) (defScope s_played) .none kV_played dc_played pm_played an_played cd_played ct_played), sl_played⟩)
    (cc_played : PySem.W.codeIn K cd_played "played" = true)
    (k_played : PySem.W.keepIn K (.ref f_played) = true)
    (a_Jar_colours : PySem.W.findIn K (.ref C_Jar) "colours" = some (some (.ref f_Jar_colours)))
    (j_Jar_colours : PySem.W.isFn K (.ref f_Jar_colours) = true)
    (l_Jar_colours : K.lookup f_Jar_colours = some ⟨oc_Jar_colours, od_Jar_colours, .func (PySem.W.fnOf "colours" "Jar.colours" (defArgs s_Jar_colours) (defBody s_Jar_colours) (defScope s_Jar_colours) .none kV_Jar_colours dc_Jar_colours pm_Jar_colours an_Jar_colours cd_Jar_colours ct_Jar_colours), sl_Jar_colours⟩)
    (cc_Jar_colours : PySem.W.codeIn K cd_Jar_colours "Jar.colours" = true)
    (k_Jar_colours : PySem.W.keepIn K (.ref f_Jar_colours) = true)
    (a_last_of : PySem.W.nsIn K mainGlobals "last_of" = some (some (.ref f_last_of)))
    (l_last_of : K.lookup f_last_of = some ⟨oc_last_of, od_last_of, .func (PySem.W.fnOf "last_of" "last_of" (defArgs s_last_of) (defBody s_last_of) (defScope s_last_of) .none kV_last_of dc_last_of pm_last_of an_last_of cd_last_of ct_last_of), sl_last_of⟩)
    (cc_last_of : PySem.W.codeIn K cd_last_of "last_of" = true)
    (k_last_of : PySem.W.keepIn K (.ref f_last_of) = true)
    (a_is_way : PySem.W.nsIn K mainGlobals "is_way" = some (some (.ref f_is_way)))
    (l_is_way : K.lookup f_is_way = some ⟨oc_is_way, od_is_way, .func (PySem.W.fnOf "is_way" "is_way" (defArgs s_is_way) (defBody s_is_way) (defScope s_is_way) .none kV_is_way dc_is_way pm_is_way an_is_way cd_is_way ct_is_way), sl_is_way⟩)
    (cc_is_way : PySem.W.codeIn K cd_is_way "is_way" = true)
    (k_is_way : PySem.W.keepIn K (.ref f_is_way) = true)
    (a_is_dispute : PySem.W.nsIn K mainGlobals "is_dispute" = some (some (.ref f_is_dispute)))
    (l_is_dispute : K.lookup f_is_dispute = some ⟨oc_is_dispute, od_is_dispute, .func (PySem.W.fnOf "is_dispute" "is_dispute" (defArgs s_is_dispute) (defBody s_is_dispute) (defScope s_is_dispute) .none kV_is_dispute dc_is_dispute pm_is_dispute an_is_dispute cd_is_dispute ct_is_dispute), sl_is_dispute⟩)
    (cc_is_dispute : PySem.W.codeIn K cd_is_dispute "is_dispute" = true)
    (k_is_dispute : PySem.W.keepIn K (.ref f_is_dispute) = true)
    (a_Jar_uuadduu : PySem.W.findIn K (.ref C_Jar) "__add__" = some (some (.ref f_Jar_uuadduu)))
    (j_Jar_uuadduu : PySem.W.isFn K (.ref f_Jar_uuadduu) = true)
    (l_Jar_uuadduu : K.lookup f_Jar_uuadduu = some ⟨oc_Jar_uuadduu, od_Jar_uuadduu, .func (PySem.W.fnOf "__add__" "Jar.__add__" (defArgs s_Jar_uuadduu) (defBody s_Jar_uuadduu) (defScope s_Jar_uuadduu) .none kV_Jar_uuadduu dc_Jar_uuadduu pm_Jar_uuadduu an_Jar_uuadduu cd_Jar_uuadduu ct_Jar_uuadduu), sl_Jar_uuadduu⟩)
    (cc_Jar_uuadduu : PySem.W.codeIn K cd_Jar_uuadduu "Jar.__add__" = true)
    (k_Jar_uuadduu : PySem.W.keepIn K (.ref f_Jar_uuadduu) = true)
    (a_law : PySem.W.nsIn K mainGlobals "law" = some (some (.ref f_law)))
    (l_law : K.lookup f_law = some ⟨oc_law, od_law, .func (PySem.W.fnOf "law" "law" (defArgs s_law) (defBody s_law) (defScope s_law) .none kV_law dc_law pm_law an_law cd_law ct_law), sl_law⟩)
    (cc_law : PySem.W.codeIn K cd_law "law" = true)
    (k_law : PySem.W.keepIn K (.ref f_law) = true)
    (z_len : PySem.W.nsIn K mainGlobals "len" = some none)
    (z_min : PySem.W.nsIn K mainGlobals "min" = some none)
    (z_max : PySem.W.nsIn K mainGlobals "max" = some none)
    (z_range : PySem.W.nsIn K mainGlobals "range" = some none)
    (mm_Table : PySem.W.makesIn K C_Table = true)
    (mk_Table : PySem.W.keepIn K (.ref C_Table) = true)
    (sf_Jar_uuadduu : PySem.W.selfFirst K C_Jar = true)
    (z_isinstance : PySem.W.nsIn K mainGlobals "isinstance" = some none)
    (il_Jar : PySem.W.isClsIn K C_Jar = true)
    (it_Jar : PySem.W.typeIn K (.ref C_Jar) = some (.type "type"))
    (yo_Jar_NoneType : PySem.W.subIn K (.type "NoneType") (.ref C_Jar) = some false)
    (yo_Jar_bool : PySem.W.subIn K (.type "bool") (.ref C_Jar) = some false)
    (yo_Jar_int : PySem.W.subIn K (.type "int") (.ref C_Jar) = some false)
    (yo_Jar_str : PySem.W.subIn K (.type "str") (.ref C_Jar) = some false)
    (yo_Jar_list : PySem.W.subIn K (.type "list") (.ref C_Jar) = some false)
    (yo_Jar_tuple : PySem.W.subIn K (.type "tuple") (.ref C_Jar) = some false)
    (yo_Jar_dict : PySem.W.subIn K (.type "dict") (.ref C_Jar) = some false)
    (zo_Jar_Table : PySem.W.subIn K (.ref C_Table) (.ref C_Jar) = some false)
    (ne_o_Jar_Table : C_Table ≠ C_Jar)
    (na_Jar_amounts : PySem.W.findIn K (.ref C_Jar) "amounts" = some none)
    (z_zip : PySem.W.nsIn K mainGlobals "zip" = some none)
    (mm_Jar : PySem.W.makesIn K C_Jar = true)
    (mk_Jar : PySem.W.keepIn K (.ref C_Jar) = true)
    (qb_tuple_Jar : PySem.W.subIn K (.ref C_Jar) (.type "tuple") = some false)
    (qb_tuple_Table : PySem.W.subIn K (.ref C_Table) (.type "tuple") = some false)
    (z_tuple : PySem.W.nsIn K mainGlobals "tuple" = some none)
    (qb_list_Jar : PySem.W.subIn K (.ref C_Jar) (.type "list") = some false)
    (qb_list_Table : PySem.W.subIn K (.ref C_Table) (.type "list") = some false)
    (z_list : PySem.W.nsIn K mainGlobals "list" = some none)
    (z_enumerate : PySem.W.nsIn K mainGlobals "enumerate" = some none)
    (z_sum : PySem.W.nsIn K mainGlobals "sum" = some none)
    (fi_Table_uugetitemuu : PySem.W.fnIn K f_Table_uugetitemuu = true)
    (z_all : PySem.W.nsIn K mainGlobals "all" = some none)
    (z_any : PySem.W.nsIn K mainGlobals "any" = some none)
    (na_Table_grid : PySem.W.findIn K (.ref C_Table) "grid" = some none)
    (y_MOST_COLOURS : PySem.W.nsIn K mainGlobals "MOST_COLOURS" = some (some (.int 8 tk_MOST_COLOURS)))
    (rd_Jar : PySem.W.readsIn K C_Jar (.type "type") = true)
    (ga_Jar : PySem.W.specialIn K (.ref C_Jar) "__getattribute__" = some (some (.builtin "type.__getattribute__")))
    (qb_int_Jar : PySem.W.subIn K (.ref C_Jar) (.type "int") = some false)
    (qb_int_Table : PySem.W.subIn K (.ref C_Table) (.type "int") = some false)
    (z_int : PySem.W.nsIn K mainGlobals "int" = some none)
    (qb_bool_Jar : PySem.W.subIn K (.ref C_Jar) (.type "bool") = some false)
    (qb_bool_Table : PySem.W.subIn K (.ref C_Table) (.type "bool") = some false)
    (z_bool : PySem.W.nsIn K mainGlobals "bool" = some none)
    (ne_Jar_Table : C_Jar ≠ C_Table)
    : ∃ fd : FuncData, (∀ (s : Shared) (v : Value), BindsTo s fd ⟨[v], []⟩ [("_law_script", v)]) ∧ ∀ base : Heap, K.In base → base.Ns mainGlobals mg → FnOk l.prog w K mg base (L2.CX l.prog w) 11 fa fd ["_law_script"] (spLaw K) := by
  have e := hfa.symm.trans (PySem.W.mg_of X G a_law)
  have e2 : f_law = fa := by
    cases e
    rfl
  subst e2
  let T : Txt ⟨C_Jar, C_Table, f_is_colour⟩ K mg := {
    f_ulaw_pool := f_ulaw_pool,
    fd_ulaw_pool := PySem.W.fnOf "_law_pool" "_law_pool" (defArgs s_ulaw_pool) (defBody s_ulaw_pool) (defScope s_ulaw_pool) .none kV_ulaw_pool dc_ulaw_pool pm_ulaw_pool an_ulaw_pool cd_ulaw_pool ct_ulaw_pool,
    f_ulaw_draw := f_ulaw_draw,
    fd_ulaw_draw := PySem.W.fnOf "_law_draw" "_law_draw" (defArgs s_ulaw_draw) (defBody s_ulaw_draw) (defScope s_ulaw_draw) .none kV_ulaw_draw dc_ulaw_draw pm_ulaw_draw an_ulaw_draw cd_ulaw_draw ct_ulaw_draw,
    f_ulaw_rows := f_ulaw_rows,
    fd_ulaw_rows := PySem.W.fnOf "_law_rows" "_law_rows" (defArgs s_ulaw_rows) (defBody s_ulaw_rows) (defScope s_ulaw_rows) .none kV_ulaw_rows dc_ulaw_rows pm_ulaw_rows an_ulaw_rows cd_ulaw_rows ct_ulaw_rows,
    f_ulaw_kind := f_ulaw_kind,
    fd_ulaw_kind := PySem.W.fnOf "_law_kind" "_law_kind" (defArgs s_ulaw_kind) (defBody s_ulaw_kind) (defScope s_ulaw_kind) .none kV_ulaw_kind dc_ulaw_kind pm_ulaw_kind an_ulaw_kind cd_ulaw_kind ct_ulaw_kind,
    f_Table_size := f_Table_size,
    fd_Table_size := PySem.W.fnOf "size" "Table.size" (defArgs s_Table_size) (defBody s_Table_size) (defScope s_Table_size) .none kV_Table_size dc_Table_size pm_Table_size an_Table_size cd_Table_size ct_Table_size,
    f_is_integer := f_is_integer,
    fd_is_integer := PySem.W.fnOf "is_integer" "is_integer" (defArgs s_is_integer) (defBody s_is_integer) (defScope s_is_integer) .none kV_is_integer dc_is_integer pm_is_integer an_is_integer cd_is_integer ct_is_integer,
    f_is_colour := f_is_colour,
    fd_is_colour := PySem.W.fnOf "is_colour" "is_colour" (defArgs s_is_colour) (defBody s_is_colour) (defScope s_is_colour) .none kV_is_colour dc_is_colour pm_is_colour an_is_colour cd_is_colour ct_is_colour,
    f_need_colours := f_need_colours,
    fd_need_colours := PySem.W.fnOf "need_colours" "need_colours" (defArgs s_need_colours) (defBody s_need_colours) (defScope s_need_colours) .none kV_need_colours dc_need_colours pm_need_colours an_need_colours cd_need_colours ct_need_colours,
    f_is_pair := f_is_pair,
    fd_is_pair := PySem.W.fnOf "is_pair" "is_pair" (defArgs s_is_pair) (defBody s_is_pair) (defScope s_is_pair) .none kV_is_pair dc_is_pair pm_is_pair an_is_pair cd_is_pair ct_is_pair,
    f_Table_uugetitemuu := f_Table_uugetitemuu,
    fd_Table_uugetitemuu := PySem.W.fnOf "__getitem__" "Table.__getitem__" (defArgs s_Table_uugetitemuu) (defBody s_Table_uugetitemuu) (defScope s_Table_uugetitemuu) .none kV_Table_uugetitemuu dc_Table_uugetitemuu pm_Table_uugetitemuu an_Table_uugetitemuu cd_Table_uugetitemuu ct_Table_uugetitemuu,
    f_is_disputed := f_is_disputed,
    fd_is_disputed := PySem.W.fnOf "is_disputed" "is_disputed" (defArgs s_is_disputed) (defBody s_is_disputed) (defScope s_is_disputed) .none kV_is_disputed dc_is_disputed pm_is_disputed an_is_disputed cd_is_disputed ct_is_disputed,
    f_first_dispute := f_first_dispute,
    fd_first_dispute := PySem.W.fnOf "first_dispute" "first_dispute" (defArgs s_first_dispute) (defBody s_first_dispute) (defScope s_first_dispute) .none kV_first_dispute dc_first_dispute pm_first_dispute an_first_dispute cd_first_dispute ct_first_dispute,
    f_draw_of := f_draw_of,
    fd_draw_of := PySem.W.fnOf "draw_of" "draw_of" (defArgs s_draw_of) (defBody s_draw_of) (defScope s_draw_of) .none kV_draw_of dc_draw_of pm_draw_of an_draw_of cd_draw_of ct_draw_of,
    f_is_sequence := f_is_sequence,
    fd_is_sequence := PySem.W.fnOf "is_sequence" "is_sequence" (defArgs s_is_sequence) (defBody s_is_sequence) (defScope s_is_sequence) .none kV_is_sequence dc_is_sequence pm_is_sequence an_is_sequence cd_is_sequence ct_is_sequence,
    f_is_count := f_is_count,
    fd_is_count := PySem.W.fnOf "is_count" "is_count" (defArgs s_is_count) (defBody s_is_count) (defScope s_is_count) .none kV_is_count dc_is_count pm_is_count an_is_count cd_is_count ct_is_count,
    f_Jar_uuinituu := f_Jar_uuinituu,
    fd_Jar_uuinituu := PySem.W.fnOf "__init__" "Jar.__init__" (defArgs s_Jar_uuinituu) (defBody s_Jar_uuinituu) (defScope s_Jar_uuinituu) .none kV_Jar_uuinituu dc_Jar_uuinituu pm_Jar_uuinituu an_Jar_uuinituu cd_Jar_uuinituu ct_Jar_uuinituu,
    f_Jar_of_beans := f_Jar_of_beans,
    fd_Jar_of_beans := PySem.W.fnOf "of_beans" "Jar.of_beans" (defArgs s_Jar_of_beans) (defBody s_Jar_of_beans) (defScope s_Jar_of_beans) .none kV_Jar_of_beans dc_Jar_of_beans pm_Jar_of_beans an_Jar_of_beans cd_Jar_of_beans ct_Jar_of_beans,
    pp_Jar_of_beans := pp_Jar_of_beans,
    f_dispute := f_dispute,
    fd_dispute := PySem.W.fnOf "dispute" "dispute" (defArgs s_dispute) (defBody s_dispute) (defScope s_dispute) .none kV_dispute dc_dispute pm_dispute an_dispute cd_dispute ct_dispute,
    f_passes := f_passes,
    fd_passes := PySem.W.fnOf "passes" "passes" (defArgs s_passes) (defBody s_passes) (defScope s_passes) .none kV_passes dc_passes pm_passes an_passes cd_passes ct_passes,
    f_first_wrong_place := f_first_wrong_place,
    fd_first_wrong_place := PySem.W.fnOf "first_wrong_place" "first_wrong_place" (defArgs s_first_wrong_place) (defBody s_first_wrong_place) (defScope s_first_wrong_place) .none kV_first_wrong_place dc_first_wrong_place pm_first_wrong_place an_first_wrong_place cd_first_wrong_place ct_first_wrong_place,
    f_is_square := f_is_square,
    fd_is_square := PySem.W.fnOf "is_square" "is_square" (defArgs s_is_square) (defBody s_is_square) (defScope s_is_square) .none kV_is_square dc_is_square pm_is_square an_is_square cd_is_square ct_is_square,
    f_Table_uuinituu := f_Table_uuinituu,
    fd_Table_uuinituu := PySem.W.fnOf "__init__" "Table.__init__" (defArgs s_Table_uuinituu) (defBody s_Table_uuinituu) (defScope s_Table_uuinituu) .none kV_Table_uuinituu dc_Table_uuinituu pm_Table_uuinituu an_Table_uuinituu cd_Table_uuinituu ct_Table_uuinituu,
    f_ulaw_first := f_ulaw_first,
    fd_ulaw_first := PySem.W.fnOf "_law_first" "_law_first" (defArgs s_ulaw_first) (defBody s_ulaw_first) (defScope s_ulaw_first) .none kV_ulaw_first dc_ulaw_first pm_ulaw_first an_ulaw_first cd_ulaw_first ct_ulaw_first,
    f_Jar_size := f_Jar_size,
    fd_Jar_size := PySem.W.fnOf "size" "Jar.size" (defArgs s_Jar_size) (defBody s_Jar_size) (defScope s_Jar_size) .none kV_Jar_size dc_Jar_size pm_Jar_size an_Jar_size cd_Jar_size ct_Jar_size,
    f_need_same_size := f_need_same_size,
    fd_need_same_size := PySem.W.fnOf "need_same_size" "need_same_size" (defArgs s_need_same_size) (defBody s_need_same_size) (defScope s_need_same_size) .none kV_need_same_size dc_need_same_size pm_need_same_size an_need_same_size cd_need_same_size ct_need_same_size,
    f_Jar_uubooluu := f_Jar_uubooluu,
    fd_Jar_uubooluu := PySem.W.fnOf "__bool__" "Jar.__bool__" (defArgs s_Jar_uubooluu) (defBody s_Jar_uubooluu) (defScope s_Jar_uubooluu) .none kV_Jar_uubooluu dc_Jar_uubooluu pm_Jar_uubooluu an_Jar_uubooluu cd_Jar_uubooluu ct_Jar_uubooluu,
    f_need_beans := f_need_beans,
    fd_need_beans := PySem.W.fnOf "need_beans" "need_beans" (defArgs s_need_beans) (defBody s_need_beans) (defScope s_need_beans) .none kV_need_beans dc_need_beans pm_need_beans an_need_beans cd_need_beans ct_need_beans,
    f_Jar_uucontainsuu := f_Jar_uucontainsuu,
    fd_Jar_uucontainsuu := PySem.W.fnOf "__contains__" "Jar.__contains__" (defArgs s_Jar_uucontainsuu) (defBody s_Jar_uucontainsuu) (defScope s_Jar_uucontainsuu) .none kV_Jar_uucontainsuu dc_Jar_uucontainsuu pm_Jar_uucontainsuu an_Jar_uucontainsuu cd_Jar_uucontainsuu ct_Jar_uucontainsuu,
    f_Jar_can_draw := f_Jar_can_draw,
    fd_Jar_can_draw := PySem.W.fnOf "can_draw" "Jar.can_draw" (defArgs s_Jar_can_draw) (defBody s_Jar_can_draw) (defScope s_Jar_can_draw) .none kV_Jar_can_draw dc_Jar_can_draw pm_Jar_can_draw an_Jar_can_draw cd_Jar_can_draw ct_Jar_can_draw,
    f_Jar_counts := f_Jar_counts,
    fd_Jar_counts := PySem.W.fnOf "counts" "Jar.counts" (defArgs s_Jar_counts) (defBody s_Jar_counts) (defScope s_Jar_counts) .none kV_Jar_counts dc_Jar_counts pm_Jar_counts an_Jar_counts cd_Jar_counts ct_Jar_counts,
    f_after := f_after,
    fd_after := PySem.W.fnOf "after" "after" (defArgs s_after) (defBody s_after) (defScope s_after) .none kV_after dc_after pm_after an_after cd_after ct_after,
    f_walked := f_walked,
    fd_walked := PySem.W.fnOf "walked" "walked" (defArgs s_walked) (defBody s_walked) (defScope s_walked) .none kV_walked dc_walked pm_walked an_walked cd_walked ct_walked,
    f_Jar_total := f_Jar_total,
    fd_Jar_total := PySem.W.fnOf "total" "Jar.total" (defArgs s_Jar_total) (defBody s_Jar_total) (defScope s_Jar_total) .none kV_Jar_total dc_Jar_total pm_Jar_total an_Jar_total cd_Jar_total ct_Jar_total,
    f_played := f_played,
    fd_played := PySem.W.fnOf "played" "played" (defArgs s_played) (defBody s_played) (defScope s_played) .none kV_played dc_played pm_played an_played cd_played ct_played,
    f_Jar_colours := f_Jar_colours,
    fd_Jar_colours := PySem.W.fnOf "colours" "Jar.colours" (defArgs s_Jar_colours) (defBody s_Jar_colours) (defScope s_Jar_colours) .none kV_Jar_colours dc_Jar_colours pm_Jar_colours an_Jar_colours cd_Jar_colours ct_Jar_colours,
    f_last_of := f_last_of,
    fd_last_of := PySem.W.fnOf "last_of" "last_of" (defArgs s_last_of) (defBody s_last_of) (defScope s_last_of) .none kV_last_of dc_last_of pm_last_of an_last_of cd_last_of ct_last_of,
    f_is_way := f_is_way,
    fd_is_way := PySem.W.fnOf "is_way" "is_way" (defArgs s_is_way) (defBody s_is_way) (defScope s_is_way) .none kV_is_way dc_is_way pm_is_way an_is_way cd_is_way ct_is_way,
    f_is_dispute := f_is_dispute,
    fd_is_dispute := PySem.W.fnOf "is_dispute" "is_dispute" (defArgs s_is_dispute) (defBody s_is_dispute) (defScope s_is_dispute) .none kV_is_dispute dc_is_dispute pm_is_dispute an_is_dispute cd_is_dispute ct_is_dispute,
    f_Jar_uuadduu := f_Jar_uuadduu,
    fd_Jar_uuadduu := PySem.W.fnOf "__add__" "Jar.__add__" (defArgs s_Jar_uuadduu) (defBody s_Jar_uuadduu) (defScope s_Jar_uuadduu) .none kV_Jar_uuadduu dc_Jar_uuadduu pm_Jar_uuadduu an_Jar_uuadduu cd_Jar_uuadduu ct_Jar_uuadduu,
    f_law := f_law,
    fd_law := PySem.W.fnOf "law" "law" (defArgs s_law) (defBody s_law) (defScope s_law) .none kV_law dc_law pm_law an_law cd_law ct_law,
    pp_Jar_total := pp_Jar_total,
    pp_Jar_size := pp_Jar_size,
    pp_Table_size := pp_Table_size,
    g_Jar := PySem.W.mg_of X G gc_Jar,
    i_Jar := ⟨⟨i1_Jar, i2_Jar, i3_Jar, i4_Jar⟩, i5_Jar, i6_Jar, i7_Jar, i8_Jar⟩,
    g_Table := PySem.W.mg_of X G gc_Table,
    i_Table := ⟨⟨i1_Table, i2_Table, i3_Table, i4_Table⟩, i5_Table, i6_Table, i7_Table, i8_Table⟩,
    F_ulaw_pool := fun_mk (st := s_ulaw_pool) l_ulaw_pool cc_ulaw_pool k_ulaw_pool,
    b_ulaw_pool := (fun_mk (st := s_ulaw_pool) l_ulaw_pool cc_ulaw_pool k_ulaw_pool).binds (ps := ["_law_script", "_law_k"]) fun _ _ _ _ _ _ us hl => match us, hl with | [_, _], _ => rfl,
    m_ulaw_pool := PySem.W.mg_of X G a_ulaw_pool,
    F_ulaw_draw := fun_mk (st := s_ulaw_draw) l_ulaw_draw cc_ulaw_draw k_ulaw_draw,
    b_ulaw_draw := (fun_mk (st := s_ulaw_draw) l_ulaw_draw cc_ulaw_draw k_ulaw_draw).binds (ps := ["_law_pool_here", "_law_many"]) fun _ _ _ _ _ _ us hl => match us, hl with | [_, _], _ => rfl,
    m_ulaw_draw := PySem.W.mg_of X G a_ulaw_draw,
    F_ulaw_rows := fun_mk (st := s_ulaw_rows) l_ulaw_rows cc_ulaw_rows k_ulaw_rows,
    b_ulaw_rows := (fun_mk (st := s_ulaw_rows) l_ulaw_rows cc_ulaw_rows k_ulaw_rows).binds (ps := ["_law_pool_here", "_law_size"]) fun _ _ _ _ _ _ us hl => match us, hl with | [_, _], _ => rfl,
    m_ulaw_rows := PySem.W.mg_of X G a_ulaw_rows,
    F_ulaw_kind := fun_mk (st := s_ulaw_kind) l_ulaw_kind cc_ulaw_kind k_ulaw_kind,
    b_ulaw_kind := (fun_mk (st := s_ulaw_kind) l_ulaw_kind cc_ulaw_kind k_ulaw_kind).binds (ps := ["_law_pool_here", "_law_size"]) fun _ _ _ _ _ _ us hl => match us, hl with | [_, _], _ => rfl,
    m_ulaw_kind := PySem.W.mg_of X G a_ulaw_kind,
    F_Table_size := fun_mk (st := s_Table_size) l_Table_size cc_Table_size k_Table_size,
    b_Table_size := (fun_mk (st := s_Table_size) l_Table_size cc_Table_size k_Table_size).binds (ps := ["self"]) fun _ _ _ _ _ _ us hl => match us, hl with | [_], _ => rfl,
    F_is_integer := fun_mk (st := s_is_integer) l_is_integer cc_is_integer k_is_integer,
    b_is_integer := (fun_mk (st := s_is_integer) l_is_integer cc_is_integer k_is_integer).binds (ps := ["value"]) fun _ _ _ _ _ _ us hl => match us, hl with | [_], _ => rfl,
    m_is_integer := PySem.W.mg_of X G a_is_integer,
    F_is_colour := fun_mk (st := s_is_colour) l_is_colour cc_is_colour k_is_colour,
    b_is_colour := (fun_mk (st := s_is_colour) l_is_colour cc_is_colour k_is_colour).binds (ps := ["value", "size"]) fun _ _ _ _ _ _ us hl => match us, hl with | [_, _], _ => rfl,
    m_is_colour := PySem.W.mg_of X G a_is_colour,
    F_need_colours := fun_mk (st := s_need_colours) l_need_colours cc_need_colours k_need_colours,
    b_need_colours := (fun_mk (st := s_need_colours) l_need_colours cc_need_colours k_need_colours).binds (ps := ["values", "size"]) fun _ _ _ _ _ _ us hl => match us, hl with | [_, _], _ => rfl,
    m_need_colours := PySem.W.mg_of X G a_need_colours,
    F_is_pair := fun_mk (st := s_is_pair) l_is_pair cc_is_pair k_is_pair,
    b_is_pair := (fun_mk (st := s_is_pair) l_is_pair cc_is_pair k_is_pair).binds (ps := ["value"]) fun _ _ _ _ _ _ us hl => match us, hl with | [_], _ => rfl,
    m_is_pair := PySem.W.mg_of X G a_is_pair,
    F_Table_uugetitemuu := fun_mk (st := s_Table_uugetitemuu) l_Table_uugetitemuu cc_Table_uugetitemuu k_Table_uugetitemuu,
    b_Table_uugetitemuu := (fun_mk (st := s_Table_uugetitemuu) l_Table_uugetitemuu cc_Table_uugetitemuu k_Table_uugetitemuu).binds (ps := ["self", "at"]) fun _ _ _ _ _ _ us hl => match us, hl with | [_, _], _ => rfl,
    F_is_disputed := fun_mk (st := s_is_disputed) l_is_disputed cc_is_disputed k_is_disputed,
    b_is_disputed := (fun_mk (st := s_is_disputed) l_is_disputed cc_is_disputed k_is_disputed).binds (ps := ["table", "a", "b", "c"]) fun _ _ _ _ _ _ us hl => match us, hl with | [_, _, _, _], _ => rfl,
    m_is_disputed := PySem.W.mg_of X G a_is_disputed,
    F_first_dispute := fun_mk (st := s_first_dispute) l_first_dispute cc_first_dispute k_first_dispute,
    b_first_dispute := (fun_mk (st := s_first_dispute) l_first_dispute cc_first_dispute k_first_dispute).binds (ps := ["table"]) fun _ _ _ _ _ _ us hl => match us, hl with | [_], _ => rfl,
    m_first_dispute := PySem.W.mg_of X G a_first_dispute,
    F_draw_of := fun_mk (st := s_draw_of) l_draw_of cc_draw_of k_draw_of,
    b_draw_of := (fun_mk (st := s_draw_of) l_draw_of cc_draw_of k_draw_of).binds (ps := ["a", "b"]) fun _ _ _ _ _ _ us hl => match us, hl with | [_, _], _ => rfl,
    m_draw_of := PySem.W.mg_of X G a_draw_of,
    F_is_sequence := fun_mk (st := s_is_sequence) l_is_sequence cc_is_sequence k_is_sequence,
    b_is_sequence := (fun_mk (st := s_is_sequence) l_is_sequence cc_is_sequence k_is_sequence).binds (ps := ["value"]) fun _ _ _ _ _ _ us hl => match us, hl with | [_], _ => rfl,
    m_is_sequence := PySem.W.mg_of X G a_is_sequence,
    F_is_count := fun_mk (st := s_is_count) l_is_count cc_is_count k_is_count,
    b_is_count := (fun_mk (st := s_is_count) l_is_count cc_is_count k_is_count).binds (ps := ["value"]) fun _ _ _ _ _ _ us hl => match us, hl with | [_], _ => rfl,
    m_is_count := PySem.W.mg_of X G a_is_count,
    F_Jar_uuinituu := fun_mk (st := s_Jar_uuinituu) l_Jar_uuinituu cc_Jar_uuinituu k_Jar_uuinituu,
    b_Jar_uuinituu := (fun_mk (st := s_Jar_uuinituu) l_Jar_uuinituu cc_Jar_uuinituu k_Jar_uuinituu).binds (ps := ["self", "counts"]) fun _ _ _ _ _ _ us hl => match us, hl with | [_, _], _ => rfl,
    F_Jar_of_beans := fun_mk (st := s_Jar_of_beans) l_Jar_of_beans cc_Jar_of_beans k_Jar_of_beans,
    b_Jar_of_beans := (fun_mk (st := s_Jar_of_beans) l_Jar_of_beans cc_Jar_of_beans k_Jar_of_beans).binds (ps := ["cls", "size", "beans"]) fun _ _ _ _ _ _ us hl => match us, hl with | [_, _, _], _ => rfl,
    h_Jar_of_beans := ⟨a_Jar_of_beans, ⟨_, d_Jar_of_beans⟩, c_Jar_of_beans⟩,
    F_dispute := fun_mk (st := s_dispute) l_dispute cc_dispute k_dispute,
    b_dispute := (fun_mk (st := s_dispute) l_dispute cc_dispute k_dispute).binds (ps := ["table"]) fun _ _ _ _ _ _ us hl => match us, hl with | [_], _ => rfl,
    m_dispute := PySem.W.mg_of X G a_dispute,
    F_passes := fun_mk (st := s_passes) l_passes cc_passes k_passes,
    b_passes := (fun_mk (st := s_passes) l_passes cc_passes k_passes).binds (ps := ["table"]) fun _ _ _ _ _ _ us hl => match us, hl with | [_], _ => rfl,
    m_passes := PySem.W.mg_of X G a_passes,
    F_first_wrong_place := fun_mk (st := s_first_wrong_place) l_first_wrong_place cc_first_wrong_place k_first_wrong_place,
    b_first_wrong_place := (fun_mk (st := s_first_wrong_place) l_first_wrong_place cc_first_wrong_place k_first_wrong_place).binds (ps := ["rows", "is_entry"]) fun _ _ _ _ _ _ us hl => match us, hl with | [_, _], _ => rfl,
    m_first_wrong_place := PySem.W.mg_of X G a_first_wrong_place,
    F_is_square := fun_mk (st := s_is_square) l_is_square cc_is_square k_is_square,
    b_is_square := (fun_mk (st := s_is_square) l_is_square cc_is_square k_is_square).binds (ps := ["rows"]) fun _ _ _ _ _ _ us hl => match us, hl with | [_], _ => rfl,
    m_is_square := PySem.W.mg_of X G a_is_square,
    F_Table_uuinituu := fun_mk (st := s_Table_uuinituu) l_Table_uuinituu cc_Table_uuinituu k_Table_uuinituu,
    b_Table_uuinituu := (fun_mk (st := s_Table_uuinituu) l_Table_uuinituu cc_Table_uuinituu k_Table_uuinituu).binds (ps := ["self", "rows"]) fun _ _ _ _ _ _ us hl => match us, hl with | [_, _], _ => rfl,
    F_ulaw_first := fun_mk (st := s_ulaw_first) l_ulaw_first cc_ulaw_first k_ulaw_first,
    b_ulaw_first := (fun_mk (st := s_ulaw_first) l_ulaw_first cc_ulaw_first k_ulaw_first).binds (ps := ["_law_rows_here", "_law_size"]) fun _ _ _ _ _ _ us hl => match us, hl with | [_, _], _ => rfl,
    m_ulaw_first := PySem.W.mg_of X G a_ulaw_first,
    F_Jar_size := fun_mk (st := s_Jar_size) l_Jar_size cc_Jar_size k_Jar_size,
    b_Jar_size := (fun_mk (st := s_Jar_size) l_Jar_size cc_Jar_size k_Jar_size).binds (ps := ["self"]) fun _ _ _ _ _ _ us hl => match us, hl with | [_], _ => rfl,
    F_need_same_size := fun_mk (st := s_need_same_size) l_need_same_size cc_need_same_size k_need_same_size,
    b_need_same_size := (fun_mk (st := s_need_same_size) l_need_same_size cc_need_same_size k_need_same_size).binds (ps := ["one", "other"]) fun _ _ _ _ _ _ us hl => match us, hl with | [_, _], _ => rfl,
    m_need_same_size := PySem.W.mg_of X G a_need_same_size,
    F_Jar_uubooluu := fun_mk (st := s_Jar_uubooluu) l_Jar_uubooluu cc_Jar_uubooluu k_Jar_uubooluu,
    b_Jar_uubooluu := (fun_mk (st := s_Jar_uubooluu) l_Jar_uubooluu cc_Jar_uubooluu k_Jar_uubooluu).binds (ps := ["self"]) fun _ _ _ _ _ _ us hl => match us, hl with | [_], _ => rfl,
    F_need_beans := fun_mk (st := s_need_beans) l_need_beans cc_need_beans k_need_beans,
    b_need_beans := (fun_mk (st := s_need_beans) l_need_beans cc_need_beans k_need_beans).binds (ps := ["table", "jar"]) fun _ _ _ _ _ _ us hl => match us, hl with | [_, _], _ => rfl,
    m_need_beans := PySem.W.mg_of X G a_need_beans,
    F_Jar_uucontainsuu := fun_mk (st := s_Jar_uucontainsuu) l_Jar_uucontainsuu cc_Jar_uucontainsuu k_Jar_uucontainsuu,
    b_Jar_uucontainsuu := (fun_mk (st := s_Jar_uucontainsuu) l_Jar_uucontainsuu cc_Jar_uucontainsuu k_Jar_uucontainsuu).binds (ps := ["self", "x"]) fun _ _ _ _ _ _ us hl => match us, hl with | [_, _], _ => rfl,
    F_Jar_can_draw := fun_mk (st := s_Jar_can_draw) l_Jar_can_draw cc_Jar_can_draw k_Jar_can_draw,
    b_Jar_can_draw := (fun_mk (st := s_Jar_can_draw) l_Jar_can_draw cc_Jar_can_draw k_Jar_can_draw).binds (ps := ["self", "value"]) fun _ _ _ _ _ _ us hl => match us, hl with | [_, _], _ => rfl,
    h_Jar_can_draw := ⟨a_Jar_can_draw, j_Jar_can_draw, k_Jar_can_draw⟩,
    F_Jar_counts := fun_mk (st := s_Jar_counts) l_Jar_counts cc_Jar_counts k_Jar_counts,
    b_Jar_counts := (fun_mk (st := s_Jar_counts) l_Jar_counts cc_Jar_counts k_Jar_counts).binds (ps := ["self"]) fun _ _ _ _ _ _ us hl => match us, hl with | [_], _ => rfl,
    h_Jar_counts := ⟨a_Jar_counts, j_Jar_counts, k_Jar_counts⟩,
    F_after := fun_mk (st := s_after) l_after cc_after k_after,
    b_after := (fun_mk (st := s_after) l_after cc_after k_after).binds (ps := ["table", "jar", "draw"]) fun _ _ _ _ _ _ us hl => match us, hl with | [_, _, _], _ => rfl,
    m_after := PySem.W.mg_of X G a_after,
    F_walked := fun_mk (st := s_walked) l_walked cc_walked k_walked,
    b_walked := (fun_mk (st := s_walked) l_walked cc_walked k_walked).binds (ps := ["table", "jar", "draws"]) fun _ _ _ _ _ _ us hl => match us, hl with | [_, _, _], _ => rfl,
    m_walked := PySem.W.mg_of X G a_walked,
    F_Jar_total := fun_mk (st := s_Jar_total) l_Jar_total cc_Jar_total k_Jar_total,
    b_Jar_total := (fun_mk (st := s_Jar_total) l_Jar_total cc_Jar_total k_Jar_total).binds (ps := ["self"]) fun _ _ _ _ _ _ us hl => match us, hl with | [_], _ => rfl,
    F_played := fun_mk (st := s_played) l_played cc_played k_played,
    b_played := (fun_mk (st := s_played) l_played cc_played k_played).binds (ps := ["table", "jar", "way"]) fun _ _ _ _ _ _ us hl => match us, hl with | [_, _, _], _ => rfl,
    m_played := PySem.W.mg_of X G a_played,
    F_Jar_colours := fun_mk (st := s_Jar_colours) l_Jar_colours cc_Jar_colours k_Jar_colours,
    b_Jar_colours := (fun_mk (st := s_Jar_colours) l_Jar_colours cc_Jar_colours k_Jar_colours).binds (ps := ["self"]) fun _ _ _ _ _ _ us hl => match us, hl with | [_], _ => rfl,
    h_Jar_colours := ⟨a_Jar_colours, j_Jar_colours, k_Jar_colours⟩,
    F_last_of := fun_mk (st := s_last_of) l_last_of cc_last_of k_last_of,
    b_last_of := (fun_mk (st := s_last_of) l_last_of cc_last_of k_last_of).binds (ps := ["table", "jar", "way"]) fun _ _ _ _ _ _ us hl => match us, hl with | [_, _, _], _ => rfl,
    m_last_of := PySem.W.mg_of X G a_last_of,
    F_is_way := fun_mk (st := s_is_way) l_is_way cc_is_way k_is_way,
    b_is_way := (fun_mk (st := s_is_way) l_is_way cc_is_way k_is_way).binds (ps := ["table", "jar", "way"]) fun _ _ _ _ _ _ us hl => match us, hl with | [_, _, _], _ => rfl,
    m_is_way := PySem.W.mg_of X G a_is_way,
    F_is_dispute := fun_mk (st := s_is_dispute) l_is_dispute cc_is_dispute k_is_dispute,
    b_is_dispute := (fun_mk (st := s_is_dispute) l_is_dispute cc_is_dispute k_is_dispute).binds (ps := ["table", "value"]) fun _ _ _ _ _ _ us hl => match us, hl with | [_, _], _ => rfl,
    m_is_dispute := PySem.W.mg_of X G a_is_dispute,
    F_Jar_uuadduu := fun_mk (st := s_Jar_uuadduu) l_Jar_uuadduu cc_Jar_uuadduu k_Jar_uuadduu,
    b_Jar_uuadduu := (fun_mk (st := s_Jar_uuadduu) l_Jar_uuadduu cc_Jar_uuadduu k_Jar_uuadduu).binds (ps := ["self", "other"]) fun _ _ _ _ _ _ us hl => match us, hl with | [_, _], _ => rfl,
    F_law := fun_mk (st := s_law) l_law cc_law k_law,
    b_law := (fun_mk (st := s_law) l_law cc_law k_law).binds (ps := ["_law_script"]) fun _ _ _ _ _ _ us hl => match us, hl with | [_], _ => rfl,
    m_law := PySem.W.mg_of X G a_law,
    n_len := PySem.W.mg_none_of X G z_len,
    n_min := PySem.W.mg_none_of X G z_min,
    n_max := PySem.W.mg_none_of X G z_max,
    n_range := PySem.W.mg_none_of X G z_range,
    mk_Table := ⟨mm_Table, a_Table_uuinituu, j_Table_uuinituu, mk_Table⟩,
    p_Jar_total := ⟨a_Jar_total, b_Jar_total, c_Jar_total, ⟨_, d_Jar_total⟩⟩,
    p_Jar_size := ⟨a_Jar_size, b_Jar_size, c_Jar_size, ⟨_, d_Jar_size⟩⟩,
    s_Jar_add := a_Jar_uuadduu,
    f_Jar_add := j_Jar_uuadduu,
    e_Jar_add := sf_Jar_uuadduu,
    n_isinstance := PySem.W.mg_none_of X G z_isinstance,
    y_Jar := (by
    intro t ht
    simp only [List.mem_cons, List.not_mem_nil, or_false] at ht
    rcases ht with rfl | rfl | rfl | rfl | rfl | rfl | rfl
    · exact DL.kit_to (x := .none) (.inr trivial) il_Jar it_Jar yo_Jar_NoneType
    · exact DL.kit_to (x := .none) (.inr trivial) il_Jar it_Jar yo_Jar_bool
    · exact DL.kit_to (x := .none) (.inr trivial) il_Jar it_Jar yo_Jar_int
    · exact DL.kit_to (x := .none) (.inr trivial) il_Jar it_Jar yo_Jar_str
    · exact DL.kit_to (x := .none) (.inr trivial) il_Jar it_Jar yo_Jar_list
    · exact DL.kit_to (x := .none) (.inr trivial) il_Jar it_Jar yo_Jar_tuple
    · exact DL.kit_to (x := .none) (.inr trivial) il_Jar it_Jar yo_Jar_dict),
    z_Jar := (by
    intro C hC
    simp only [List.mem_cons, List.not_mem_nil, or_false] at hC
    rcases hC with rfl
    · exact ⟨⟨⟨i1_Table, i2_Table, i3_Table, i4_Table⟩, i5_Table, i6_Table, i7_Table, i8_Table⟩, DL.kit_oo ne_o_Jar_Table il_Jar it_Jar zo_Jar_Table⟩),
    a_Jar_amounts := na_Jar_amounts,
    n_zip := PySem.W.mg_none_of X G z_zip,
    mk_Jar := ⟨mm_Jar, a_Jar_uuinituu, j_Jar_uuinituu, mk_Jar⟩,
    q_tuple := (by
    intro C hC
    simp only [List.mem_cons, List.not_mem_nil, or_false] at hC
    rcases hC with rfl | rfl
    · exact ⟨⟨⟨i1_Jar, i2_Jar, i3_Jar, i4_Jar⟩, i5_Jar, i6_Jar, i7_Jar, i8_Jar⟩, DL.kit_rt qb_tuple_Jar⟩
    · exact ⟨⟨⟨i1_Table, i2_Table, i3_Table, i4_Table⟩, i5_Table, i6_Table, i7_Table, i8_Table⟩, DL.kit_rt qb_tuple_Table⟩),
    n_tuple := PySem.W.mg_none_of X G z_tuple,
    p_Table_size := ⟨a_Table_size, b_Table_size, c_Table_size, ⟨_, d_Table_size⟩⟩,
    q_list := (by
    intro C hC
    simp only [List.mem_cons, List.not_mem_nil, or_false] at hC
    rcases hC with rfl | rfl
    · exact ⟨⟨⟨i1_Jar, i2_Jar, i3_Jar, i4_Jar⟩, i5_Jar, i6_Jar, i7_Jar, i8_Jar⟩, DL.kit_rt qb_list_Jar⟩
    · exact ⟨⟨⟨i1_Table, i2_Table, i3_Table, i4_Table⟩, i5_Table, i6_Table, i7_Table, i8_Table⟩, DL.kit_rt qb_list_Table⟩),
    n_list := PySem.W.mg_none_of X G z_list,
    n_enumerate := PySem.W.mg_none_of X G z_enumerate,
    n_sum := PySem.W.mg_none_of X G z_sum,
    s_Table_getitem := a_Table_uugetitemuu,
    f_Table_getitem := j_Table_uugetitemuu,
    n_Table_getitem := fi_Table_uugetitemuu,
    s_Jar_contains := a_Jar_uucontainsuu,
    f_Jar_contains := j_Jar_uucontainsuu,
    n_all := PySem.W.mg_none_of X G z_all,
    s_Jar_bool := a_Jar_uubooluu,
    f_Jar_bool := j_Jar_uubooluu,
    n_any := PySem.W.mg_none_of X G z_any,
    v_is_colour := rfl,
    a_Table_grid := na_Table_grid,
    c_MOST_COLOURS := ⟨_, PySem.W.mg_of X G y_MOST_COLOURS⟩,
    r_Jar := ⟨rd_Jar, ga_Jar⟩,
    q_int := (by
    intro C hC
    simp only [List.mem_cons, List.not_mem_nil, or_false] at hC
    rcases hC with rfl | rfl
    · exact ⟨⟨⟨i1_Jar, i2_Jar, i3_Jar, i4_Jar⟩, i5_Jar, i6_Jar, i7_Jar, i8_Jar⟩, DL.kit_rt qb_int_Jar⟩
    · exact ⟨⟨⟨i1_Table, i2_Table, i3_Table, i4_Table⟩, i5_Table, i6_Table, i7_Table, i8_Table⟩, DL.kit_rt qb_int_Table⟩),
    n_int := PySem.W.mg_none_of X G z_int,
    q_bool := (by
    intro C hC
    simp only [List.mem_cons, List.not_mem_nil, or_false] at hC
    rcases hC with rfl | rfl
    · exact ⟨⟨⟨i1_Jar, i2_Jar, i3_Jar, i4_Jar⟩, i5_Jar, i6_Jar, i7_Jar, i8_Jar⟩, DL.kit_rt qb_bool_Jar⟩
    · exact ⟨⟨⟨i1_Table, i2_Table, i3_Table, i4_Table⟩, i5_Table, i6_Table, i7_Table, i8_Table⟩, DL.kit_rt qb_bool_Table⟩),
    n_bool := PySem.W.mg_none_of X G z_bool }
  exact ⟨PySem.W.fnOf "law" "law" (defArgs s_law) (defBody s_law) (defScope s_law) .none kV_law dc_law pm_law an_law cd_law ct_law, fun s v => .of_eq rfl, fun base _ _ => (ok_law (P := l.prog) (w := w) (base := base) T).imp (law_sp (main_ok ⟨C_Jar, C_Table, f_is_colour⟩ (ne_Jar_Table)))⟩
end Law
open PySem PySem.W PyProof.Rows
set_option maxRecDepth 100000 in
set_option maxHeartbeats 0 in
theorem PySem.Challenge.cw_beanjars_k10_disputes_holds : PySem.Challenge.rw_beanjars_k10_disputes.Holds := by
  w_on; o_law; k_head; (case hw => w_witness2)
  k_fill
  refine L2.walk_of (l := PySem.Challenge.rw_beanjars_k10_disputes) (n := 63) (k := 11) (x := "_law_script") (CX := fun w => L2.CX PySem.Challenge.rw_beanjars_k10_disputes.prog w) (sp := fun w => DL.spLaw _) rfl (by decide) rfl ⟨rfl, by decide, by decide⟩ (fun w h Y => PySem.W.kIn_of Y) ?F (fun _ _ a ns hl _ hS => ⟨a, ns, rfl, hS, hl, fun _ => rfl⟩) (fun _ _ _ _ _ z => DL.cx_no z)
  case F =>
    intro w mg fa h KX G hmg
    refine' Law.all_mk KX G hmg ?gc_Jar ?i1_Jar ?i2_Jar ?i3_Jar ?i4_Jar ?i5_Jar ?i6_Jar ?i7_Jar ?i8_Jar ?gc_Table ?i1_Table ?i2_Table ?i3_Table ?i4_Table ?i5_Table ?i6_Table ?i7_Table ?i8_Table ?a_ulaw_pool ?l_ulaw_pool ?cc_ulaw_pool ?k_ulaw_pool ?a_ulaw_draw ?l_ulaw_draw ?cc_ulaw_draw ?k_ulaw_draw ?a_ulaw_rows ?l_ulaw_rows ?cc_ulaw_rows ?k_ulaw_rows ?a_ulaw_kind ?l_ulaw_kind ?cc_ulaw_kind ?k_ulaw_kind ?a_Table_size ?b_Table_size ?c_Table_size ?d_Table_size ?l_Table_size ?cc_Table_size ?k_Table_size ?a_is_integer ?l_is_integer ?cc_is_integer ?k_is_integer ?a_is_colour ?l_is_colour ?cc_is_colour ?k_is_colour ?a_need_colours ?l_need_colours ?cc_need_colours ?k_need_colours ?a_is_pair ?l_is_pair ?cc_is_pair ?k_is_pair ?a_Table_uugetitemuu ?j_Table_uugetitemuu ?l_Table_uugetitemuu ?cc_Table_uugetitemuu ?k_Table_uugetitemuu ?a_is_disputed ?l_is_disputed ?cc_is_disputed ?k_is_disputed ?a_first_dispute ?l_first_dispute ?cc_first_dispute ?k_first_dispute ?a_draw_of ?l_draw_of ?cc_draw_of ?k_draw_of ?a_is_sequence ?l_is_sequence ?cc_is_sequence ?k_is_sequence ?a_is_count ?l_is_count ?cc_is_count ?k_is_count ?a_Jar_uuinituu ?j_Jar_uuinituu ?l_Jar_uuinituu ?cc_Jar_uuinituu ?k_Jar_uuinituu ?a_Jar_of_beans ?d_Jar_of_beans ?c_Jar_of_beans ?l_Jar_of_beans ?cc_Jar_of_beans ?k_Jar_of_beans ?a_dispute ?l_dispute ?cc_dispute ?k_dispute ?a_passes ?l_passes ?cc_passes ?k_passes ?a_first_wrong_place ?l_first_wrong_place ?cc_first_wrong_place ?k_first_wrong_place ?a_is_square ?l_is_square ?cc_is_square ?k_is_square ?a_Table_uuinituu ?j_Table_uuinituu ?l_Table_uuinituu ?cc_Table_uuinituu ?k_Table_uuinituu ?a_ulaw_first ?l_ulaw_first ?cc_ulaw_first ?k_ulaw_first ?a_Jar_size ?b_Jar_size ?c_Jar_size ?d_Jar_size ?l_Jar_size ?cc_Jar_size ?k_Jar_size ?a_need_same_size ?l_need_same_size ?cc_need_same_size ?k_need_same_size ?a_Jar_uubooluu ?j_Jar_uubooluu ?l_Jar_uubooluu ?cc_Jar_uubooluu ?k_Jar_uubooluu ?a_need_beans ?l_need_beans ?cc_need_beans ?k_need_beans ?a_Jar_uucontainsuu ?j_Jar_uucontainsuu ?l_Jar_uucontainsuu ?cc_Jar_uucontainsuu ?k_Jar_uucontainsuu ?a_Jar_can_draw ?j_Jar_can_draw ?l_Jar_can_draw ?cc_Jar_can_draw ?k_Jar_can_draw ?a_Jar_counts ?j_Jar_counts ?l_Jar_counts ?cc_Jar_counts ?k_Jar_counts ?a_after ?l_after ?cc_after ?k_after ?a_walked ?l_walked ?cc_walked ?k_walked ?a_Jar_total ?b_Jar_total ?c_Jar_total ?d_Jar_total ?l_Jar_total ?cc_Jar_total ?k_Jar_total ?a_played ?l_played ?cc_played ?k_played ?a_Jar_colours ?j_Jar_colours ?l_Jar_colours ?cc_Jar_colours ?k_Jar_colours ?a_last_of ?l_last_of ?cc_last_of ?k_last_of ?a_is_way ?l_is_way ?cc_is_way ?k_is_way ?a_is_dispute ?l_is_dispute ?cc_is_dispute ?k_is_dispute ?a_Jar_uuadduu ?j_Jar_uuadduu ?l_Jar_uuadduu ?cc_Jar_uuadduu ?k_Jar_uuadduu ?a_law ?l_law ?cc_law ?k_law ?z_len ?z_min ?z_max ?z_range ?mm_Table ?mk_Table ?sf_Jar_uuadduu ?z_isinstance ?il_Jar ?it_Jar ?yo_Jar_NoneType ?yo_Jar_bool ?yo_Jar_int ?yo_Jar_str ?yo_Jar_list ?yo_Jar_tuple ?yo_Jar_dict ?zo_Jar_Table ?ne_o_Jar_Table ?na_Jar_amounts ?z_zip ?mm_Jar ?mk_Jar ?qb_tuple_Jar ?qb_tuple_Table ?z_tuple ?qb_list_Jar ?qb_list_Table ?z_list ?z_enumerate ?z_sum ?fi_Table_uugetitemuu ?z_all ?z_any ?na_Table_grid ?y_MOST_COLOURS ?rd_Jar ?ga_Jar ?qb_int_Jar ?qb_int_Table ?z_int ?qb_bool_Jar ?qb_bool_Table ?z_bool ?ne_Jar_Table
    (case gc_Jar => k_is)
    (case i1_Jar => k_is)
    (case i2_Jar => k_is)
    (case i3_Jar => k_is)
    (case i4_Jar => k_is)
    (case i5_Jar => k_is)
    (case i6_Jar => k_is)
    (case i7_Jar => k_is)
    (case i8_Jar => k_is)
    (case gc_Table => k_is)
    (case i1_Table => k_is)
    (case i2_Table => k_is)
    (case i3_Table => k_is)
    (case i4_Table => k_is)
    (case i5_Table => k_is)
    (case i6_Table => k_is)
    (case i7_Table => k_is)
    (case i8_Table => k_is)
    (case a_ulaw_pool => k_is)
    (case l_ulaw_pool => k_is)
    (case cc_ulaw_pool => k_is)
    (case k_ulaw_pool => k_is)
    (case a_ulaw_draw => k_is)
    (case l_ulaw_draw => k_is)
    (case cc_ulaw_draw => k_is)
    (case k_ulaw_draw => k_is)
    (case a_ulaw_rows => k_is)
    (case l_ulaw_rows => k_is)
    (case cc_ulaw_rows => k_is)
    (case k_ulaw_rows => k_is)
    (case a_ulaw_kind => k_is)
    (case l_ulaw_kind => k_is)
    (case cc_ulaw_kind => k_is)
    (case k_ulaw_kind => k_is)
    (case a_Table_size => k_is)
    (case b_Table_size => k_is)
    (case c_Table_size => k_is)
    (case d_Table_size => k_is)
    (case l_Table_size => k_is)
    (case cc_Table_size => k_is)
    (case k_Table_size => k_is)
    (case a_is_integer => k_is)
    (case l_is_integer => k_is)
    (case cc_is_integer => k_is)
    (case k_is_integer => k_is)
    (case a_is_colour => k_is)
    (case l_is_colour => k_is)
    (case cc_is_colour => k_is)
    (case k_is_colour => k_is)
    (case a_need_colours => k_is)
    (case l_need_colours => k_is)
    (case cc_need_colours => k_is)
    (case k_need_colours => k_is)
    (case a_is_pair => k_is)
    (case l_is_pair => k_is)
    (case cc_is_pair => k_is)
    (case k_is_pair => k_is)
    (case a_Table_uugetitemuu => k_is)
    (case j_Table_uugetitemuu => k_is)
    (case l_Table_uugetitemuu => k_is)
    (case cc_Table_uugetitemuu => k_is)
    (case k_Table_uugetitemuu => k_is)
    (case a_is_disputed => k_is)
    (case l_is_disputed => k_is)
    (case cc_is_disputed => k_is)
    (case k_is_disputed => k_is)
    (case a_first_dispute => k_is)
    (case l_first_dispute => k_is)
    (case cc_first_dispute => k_is)
    (case k_first_dispute => k_is)
    (case a_draw_of => k_is)
    (case l_draw_of => k_is)
    (case cc_draw_of => k_is)
    (case k_draw_of => k_is)
    (case a_is_sequence => k_is)
    (case l_is_sequence => k_is)
    (case cc_is_sequence => k_is)
    (case k_is_sequence => k_is)
    (case a_is_count => k_is)
    (case l_is_count => k_is)
    (case cc_is_count => k_is)
    (case k_is_count => k_is)
    (case a_Jar_uuinituu => k_is)
    (case j_Jar_uuinituu => k_is)
    (case l_Jar_uuinituu => k_is)
    (case cc_Jar_uuinituu => k_is)
    (case k_Jar_uuinituu => k_is)
    (case a_Jar_of_beans => k_is)
    (case d_Jar_of_beans => k_is)
    (case c_Jar_of_beans => k_is)
    (case l_Jar_of_beans => k_is)
    (case cc_Jar_of_beans => k_is)
    (case k_Jar_of_beans => k_is)
    (case a_dispute => k_is)
    (case l_dispute => k_is)
    (case cc_dispute => k_is)
    (case k_dispute => k_is)
    (case a_passes => k_is)
    (case l_passes => k_is)
    (case cc_passes => k_is)
    (case k_passes => k_is)
    (case a_first_wrong_place => k_is)
    (case l_first_wrong_place => k_is)
    (case cc_first_wrong_place => k_is)
    (case k_first_wrong_place => k_is)
    (case a_is_square => k_is)
    (case l_is_square => k_is)
    (case cc_is_square => k_is)
    (case k_is_square => k_is)
    (case a_Table_uuinituu => k_is)
    (case j_Table_uuinituu => k_is)
    (case l_Table_uuinituu => k_is)
    (case cc_Table_uuinituu => k_is)
    (case k_Table_uuinituu => k_is)
    (case a_ulaw_first => k_is)
    (case l_ulaw_first => k_is)
    (case cc_ulaw_first => k_is)
    (case k_ulaw_first => k_is)
    (case a_Jar_size => k_is)
    (case b_Jar_size => k_is)
    (case c_Jar_size => k_is)
    (case d_Jar_size => k_is)
    (case l_Jar_size => k_is)
    (case cc_Jar_size => k_is)
    (case k_Jar_size => k_is)
    (case a_need_same_size => k_is)
    (case l_need_same_size => k_is)
    (case cc_need_same_size => k_is)
    (case k_need_same_size => k_is)
    (case a_Jar_uubooluu => k_is)
    (case j_Jar_uubooluu => k_is)
    (case l_Jar_uubooluu => k_is)
    (case cc_Jar_uubooluu => k_is)
    (case k_Jar_uubooluu => k_is)
    (case a_need_beans => k_is)
    (case l_need_beans => k_is)
    (case cc_need_beans => k_is)
    (case k_need_beans => k_is)
    (case a_Jar_uucontainsuu => k_is)
    (case j_Jar_uucontainsuu => k_is)
    (case l_Jar_uucontainsuu => k_is)
    (case cc_Jar_uucontainsuu => k_is)
    (case k_Jar_uucontainsuu => k_is)
    (case a_Jar_can_draw => k_is)
    (case j_Jar_can_draw => k_is)
    (case l_Jar_can_draw => k_is)
    (case cc_Jar_can_draw => k_is)
    (case k_Jar_can_draw => k_is)
    (case a_Jar_counts => k_is)
    (case j_Jar_counts => k_is)
    (case l_Jar_counts => k_is)
    (case cc_Jar_counts => k_is)
    (case k_Jar_counts => k_is)
    (case a_after => k_is)
    (case l_after => k_is)
    (case cc_after => k_is)
    (case k_after => k_is)
    (case a_walked => k_is)
    (case l_walked => k_is)
    (case cc_walked => k_is)
    (case k_walked => k_is)
    (case a_Jar_total => k_is)
    (case b_Jar_total => k_is)
    (case c_Jar_total => k_is)
    (case d_Jar_total => k_is)
    (case l_Jar_total => k_is)
    (case cc_Jar_total => k_is)
    (case k_Jar_total => k_is)
    (case a_played => k_is)
    (case l_played => k_is)
    (case cc_played => k_is)
    (case k_played => k_is)
    (case a_Jar_colours => k_is)
    (case j_Jar_colours => k_is)
    (case l_Jar_colours => k_is)
    (case cc_Jar_colours => k_is)
    (case k_Jar_colours => k_is)
    (case a_last_of => k_is)
    (case l_last_of => k_is)
    (case cc_last_of => k_is)
    (case k_last_of => k_is)
    (case a_is_way => k_is)
    (case l_is_way => k_is)
    (case cc_is_way => k_is)
    (case k_is_way => k_is)
    (case a_is_dispute => k_is)
    (case l_is_dispute => k_is)
    (case cc_is_dispute => k_is)
    (case k_is_dispute => k_is)
    (case a_Jar_uuadduu => k_is)
    (case j_Jar_uuadduu => k_is)
    (case l_Jar_uuadduu => k_is)
    (case cc_Jar_uuadduu => k_is)
    (case k_Jar_uuadduu => k_is)
    (case a_law => k_is)
    (case l_law => k_is)
    (case cc_law => k_is)
    (case k_law => k_is)
    (case z_len => k_is)
    (case z_min => k_is)
    (case z_max => k_is)
    (case z_range => k_is)
    (case mm_Table => k_is)
    (case mk_Table => k_is)
    (case sf_Jar_uuadduu => k_is)
    (case z_isinstance => k_is)
    (case il_Jar => k_is)
    (case it_Jar => k_is)
    (case yo_Jar_NoneType => k_is)
    (case yo_Jar_bool => k_is)
    (case yo_Jar_int => k_is)
    (case yo_Jar_str => k_is)
    (case yo_Jar_list => k_is)
    (case yo_Jar_tuple => k_is)
    (case yo_Jar_dict => k_is)
    (case zo_Jar_Table => k_is)
    (case ne_o_Jar_Table => decide)
    (case na_Jar_amounts => k_is)
    (case z_zip => k_is)
    (case mm_Jar => k_is)
    (case mk_Jar => k_is)
    (case qb_tuple_Jar => k_is)
    (case qb_tuple_Table => k_is)
    (case z_tuple => k_is)
    (case qb_list_Jar => k_is)
    (case qb_list_Table => k_is)
    (case z_list => k_is)
    (case z_enumerate => k_is)
    (case z_sum => k_is)
    (case fi_Table_uugetitemuu => k_is)
    (case z_all => k_is)
    (case z_any => k_is)
    (case na_Table_grid => k_is)
    (case y_MOST_COLOURS => k_is)
    (case rd_Jar => k_is)
    (case ga_Jar => k_is)
    (case qb_int_Jar => k_is)
    (case qb_int_Table => k_is)
    (case z_int => k_is)
    (case qb_bool_Jar => k_is)
    (case qb_bool_Table => k_is)
    (case z_bool => k_is)
    (case ne_Jar_Table => decide)
