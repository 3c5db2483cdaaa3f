/- THE LEDGER: compareName, the search, fold, WALKED. -/
import Derived.Test.YtdoedjmdcmgddaaGreatI3
import Derived.Test.YtdoedjmdcmgddaaGreatShelf
namespace Go.Proofs.YtdoedjmdcmgddaaGreat
set_option linter.unusedVariables false
set_option linter.unusedSimpArgs false
open Go.RowKit Go.Lib

theorem cmp_lt : ∀ (a b : List UInt8), (compareBytes a b < 0) ↔ Op.bytesLess a b = true
  | [], [] => by simp [compareBytes, Op.bytesLess]
  | [], _ :: _ => by simp [compareBytes, Op.bytesLess]
  | _ :: _, [] => by simp [compareBytes, Op.bytesLess]
  | a :: x, b :: y => by
    have ih := cmp_lt x y
    simp only [compareBytes, Op.bytesLess]
    by_cases h1 : a < b
    · simp [h1]
    · by_cases h2 : b < a
      · have : ¬ (a == b) = true := by
          intro h; have := eq_of_beq h; subst this; exact absurd h2 h1
        simp [h1, h2, this]
      · have e : a = b := by
          refine Decidable.of_not_not fun h => ?_
          rcases UInt8.lt_or_lt_of_ne h with h | h
          · exact h1 h
          · exact h2 h
        subst e
        simp [h1, ih]

theorem cmp_eq0 : ∀ (a b : List UInt8), (compareBytes a b = 0) ↔ a = b
  | [], [] => by simp [compareBytes]
  | [], _ :: _ => by simp [compareBytes]
  | _ :: _, [] => by simp [compareBytes]
  | a :: x, b :: y => by
    have ih := cmp_eq0 x y
    simp only [compareBytes]
    by_cases h1 : a < b
    · have : a ≠ b := fun e => by subst e; exact absurd h1 (UInt8.lt_irrefl a)
      simp [h1, this]
    · by_cases h2 : b < a
      · have : a ≠ b := fun e => by subst e; exact absurd h2 (UInt8.lt_irrefl a)
        simp [h1, h2, this]
      · have e : a = b := by
          refine Decidable.of_not_not fun h => ?_
          rcases UInt8.lt_or_lt_of_ne h with h | h
          · exact h1 h
          · exact h2 h
        subst e
        simp [h1, ih]

theorem data_inj {a b : ByteArray} (h : a.data.toList = b.data.toList) : a = b := by
  cases a; cases b
  simp at h
  rw [h]

def cmpN (a b : ByteArray) : Int := compareBytes a.data.toList b.data.toList
theorem cmpN_lt (a b : ByteArray) : (cmpN a b < 0) ↔ less a b = true := cmp_lt _ _
theorem cmpN_eq (a b : ByteArray) : (cmpN a b = 0) ↔ a = b := ⟨fun h => data_inj ((cmp_eq0 _ _).1 h), fun h => by subst h; exact (cmp_eq0 _ _).2 rfl⟩

set_option maxRecDepth 100000 in
set_option maxHeartbeats 400000 in
theorem compareName_any (k : Ky) (name : ByteArray) (w : World) :
    Calls Tryz.prog 113 #[k.agg, .string name] w fun e w' => e = .returned (.int .i64 (cmpN k.name name)) ∧ Chg (fun _ => False) w w' := by
  unfold Ky.agg
  go_enter Tryz.func113, Tryz.ntmps113
  go_wp2_with fail
  refine (Tryz.strings_Compare _ _ _).mono ?_
  rintro _ w1 ⟨rfl, rfl⟩
  go_wp2_with fail
  go_ret
  exact ⟨rfl, (Chg.refl _ _).alloc _⟩

/-- How many names are below one. -/
def lowPos (name : ByteArray) : List Ky → Nat
  | [] => 0
  | k :: r => if less k.name name then lowPos name r + 1 else 0

theorem lowPos_le (name : ByteArray) : ∀ l : List Ky, lowPos name l ≤ l.length
  | [] => Nat.le_refl _
  | k :: r => by
    have := lowPos_le name r
    unfold lowPos; split <;> simp <;> omega

def nameAt (l : List Ky) (i : Nat) : ByteArray := match l[i]? with
  | some k => k.name
  | none => ⟨#[]⟩

/-- The names rise: below the place they are less, from it on they are not. -/
structure Rises (l : List Ky) : Prop where
  tail : ∀ (name : ByteArray) (i : Nat), i < l.length → (less (nameAt l i) name = true ↔ i < lowPos name l)

set_option maxRecDepth 100000 in
set_option maxHeartbeats 400000 in
theorem search_any (lo n : Nat) (v : Value) (ks : List Ky) (name : ByteArray) (w : World) (hr : w.ownsRow lo 60 4 v n (keyCells ks)) (hl : ks.length = n) (hn : n ≤ 1000) (hs : Rises ks) :
    Calls Tryz.prog 112 #[v, .string name, .func (.func 113) #[] #[]] w fun e w' =>
      e = .returned (.tuple #[.int .i64 (lowPos name ks), .bool (decide (lowPos name ks < n ∧ nameAt ks (lowPos name ks) = name))]) ∧ Chg (fun _ => False) w w' := by
  obtain ⟨p, cap, rfl⟩ := row_any hr
  have hP := lowPos_le name ks
  obtain ⟨Q, hQ⟩ : ∃ Q, Q = lowPos name ks := ⟨_, rfl⟩
  go_enter Tryz.func112, Tryz.ntmps112
  go_wp2
  go_loopw [9, 10, 11] (fun si sj _ wr => ∃ (i j : Nat), si = .int .i64 i ∧ sj = .int .i64 j ∧ i ≤ Q ∧ Q ≤ j ∧ j ≤ n ∧ Chg (fun _ => False) w wr) (fun si sj _ _ => (intOf sj).toNat - (intOf si).toNat)
  case atStart => exact ⟨0, n, rfl, rfl, by omega, by omega, by omega, Chg.refl _ _⟩
  case round =>
    obtain ⟨i, j, rfl, rfl, hi, hj, hjn, hc⟩ := hrel
    by_cases hij : i < j
    · have hij' : (i : Int) < (j : Int) := by omega
      obtain ⟨m, hm⟩ : ∃ m, m = (i + j) / 2 := ⟨_, rfl⟩
      have hm1 : i ≤ m := by omega
      have hm2 : m < j := by omega
      have e0 : ((i : Int) + (j : Int)) / 2 = (m : Int) := by omega
      have HM : Hid (m = (i + j) / 2) := hm
      clear hm
      obtain ⟨x, hx⟩ : ∃ x, ks[m]? = some x := ⟨_, List.getElem?_eq_getElem (by omega)⟩
      have cx := keyCells_at ks m x hx
      obtain ⟨g, cap', hv, hlg, _, hcell⟩ := row_pos hr (by omega)
      simp only [Value.slice.injEq] at hv
      obtain ⟨rfl, _, rfl⟩ := hv
      have a0 := hc.cellAt (hcell _ _ cx.1) id
      have a1 := hc.cellAt (hcell _ _ cx.2.1) id
      have a2 := hc.cellAt (hcell _ _ cx.2.2.1) id
      have a3 := hc.cellAt (hcell _ _ cx.2.2.2) id
      have hmn : (m : Int) < (n : Int) := by omega
      have hlt := hs.tail name m (by omega)
      have hnm : nameAt ks m = x.name := by simp [nameAt, hx]
      rw [hnm] at hlt
      clear hcell hr cx
      go_wp2_with fail
      refine (compareName_any x name wr).mono ?_
      rintro _ w1 ⟨rfl, hc1⟩
      by_cases hle : less x.name name = true
      · have hd : cmpN x.name name < 0 := (cmpN_lt _ _).2 hle
        have hmQ := hlt.1 hle
        rw [← hQ] at hmQ
        clear hlt hnm e0
        go_wp2_with fail
        go_roundw
        case rel => exact ⟨m + 1, j, by go_num, rfl, by omega, hj, hjn, hc.trans hc1 (fun _ _ h => h)⟩
        case measure => simp [intOf]; omega
      · have hd : ¬ cmpN x.name name < 0 := fun h => hle ((cmpN_lt _ _).1 h)
        have hmQ : ¬ m < lowPos name ks := fun h => hle (hlt.2 h)
        rw [← hQ] at hmQ
        clear hlt hnm e0
        go_wp2_with fail
        go_roundw
        case rel => exact ⟨i, m, rfl, by go_num, hi, by omega, by omega, hc.trans hc1 (fun _ _ h => h)⟩
        case measure => simp [intOf]; omega
    · have hij' : ¬ (i : Int) < (j : Int) := by omega
      have hiQ : i = Q := by omega
      subst hiQ
      by_cases hin : i < n
      · obtain ⟨x, hx⟩ : ∃ x, ks[i]? = some x := ⟨_, List.getElem?_eq_getElem (by omega)⟩
        have cx := keyCells_at ks i x hx
        obtain ⟨g, cap', hv, hlg, _, hcell⟩ := row_pos hr (by omega)
        simp only [Value.slice.injEq] at hv
        obtain ⟨rfl, _, rfl⟩ := hv
        have a0 := hc.cellAt (hcell _ _ cx.1) id
        have a1 := hc.cellAt (hcell _ _ cx.2.1) id
        have a2 := hc.cellAt (hcell _ _ cx.2.2.1) id
        have a3 := hc.cellAt (hcell _ _ cx.2.2.2) id
        have hin' : (i : Int) < (n : Int) := by omega
        have hnm : nameAt ks i = x.name := by simp [nameAt, hx]
        have HQ : Hid (i = lowPos name ks) := hQ
        clear hcell hr cx hQ
        go_wp2_with fail
        refine (compareName_any x name wr).mono ?_
        rintro _ w1 ⟨rfl, hc1⟩
        go_wp2_with fail
        go_ret2
        refine ⟨?_, hc.trans hc1 (fun _ _ h => h)⟩
        have e1 : (cmpN x.name name == 0) = decide (i < n ∧ nameAt ks i = name) := by
          rw [hnm]
          have := cmpN_eq x.name name
          by_cases h : x.name = name
          · simp [h, hin, this.2 h, (cmpN_eq name name).2 rfl]
          · have h0 : ¬ cmpN x.name name = 0 := fun h' => h (this.1 h')
            simp [h, h0]
        rw [← HQ.out, ← e1]
        rfl
      · have hin' : ¬ (i : Int) < (n : Int) := by omega
        have e1 : decide (i < n ∧ nameAt ks i = name) = false := by simp; omega
        have HQ : Hid (i = lowPos name ks) := hQ
        have E1 : Hid (decide (i < n ∧ nameAt ks i = name) = false) := e1
        clear hQ e1
        go_wp2_with fail
        go_ret2
        refine ⟨?_, hc⟩
        rw [← HQ.out]
        have d1 : decide (i < n) = false := by simp; omega
        simp [d1]

end Go.Proofs.YtdoedjmdcmgddaaGreat
