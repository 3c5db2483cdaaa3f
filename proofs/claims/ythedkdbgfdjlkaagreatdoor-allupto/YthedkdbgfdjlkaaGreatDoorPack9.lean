import Derived.Test.YthedkdbgfdjlkaaGreatDoorPack1
import Derived.Test.YthedkdbgfdjlkaaGreatDoorPack2
import Derived.Test.YthedkdbgfdjlkaaGreatDoorPack3
import Derived.Test.YthedkdbgfdjlkaaGreatDoorPack4
import Derived.Test.YthedkdbgfdjlkaaGreatDoorPack5
import Derived.Test.YthedkdbgfdjlkaaGreatDoorPack6
import Derived.Test.YthedkdbgfdjlkaaGreatDoorPack7
import Derived.Test.YthedkdbgfdjlkaaGreatDoorPack8
namespace Go.Proofs.YthedkdbgfdjlkaaGreatDoor
set_option linter.unusedVariables false
set_option linter.unusedSimpArgs false
open Go.RowKit Go.Lib
def shortV (u : Value) : Prop := ∀ p n c, u = .slice p n c → n ≤ 1000
structure BookAt (w : World) (mb o : Nat) (vI vS vK vP : Value) (I S K P : List Value) : Prop where
  cI : w.cell? ⟨mb, o, none⟩ = some vI
  cS : w.cell? ⟨mb, o + 1, none⟩ = some vS
  cK : w.cell? ⟨mb, o + 2, none⟩ = some vK
  cP : w.cell? ⟨mb, o + 3, none⟩ = some vP
  rI : w.ownsRow 0 36 1 vI I.length I
  rS : w.ownsRow 0 43 1 vS S.length S
  rK : w.ownsRow 0 44 1 vK K.length K
  rP : w.ownsRow 0 56 1 vP P.length P
  mI : ∀ (i : Nat) (u : Value), I[i]? = some u → Mk w 1 0 (1000000 + ((i / 4 : Nat) : Int)) u ∧ shortV u
  mS : ∀ (i : Nat) (u : Value), S[i]? = some u → Mk w 3 1 (1000000 + ((i / 4 : Nat) : Int)) u ∧ shortV u
  mK : ∀ (i : Nat) (u : Value), K[i]? = some u → Mk w 4 1 (1000000 + ((i / 4 : Nat) : Int)) u ∧ shortV u
  mP : ∀ (i : Nat) (u : Value), P[i]? = some u → Mk w 3 1 (1000000 + ((i / 4 : Nat) : Int)) u ∧ shortV u
theorem Mk.len {w : World} {sz off : Nat} {x : Int} {v : Value} (h : Mk w sz off x v) : ∃ p n c, v = .slice p n c ∧ ∀ j, j < n → ∃ g, p = some ⟨g, 0, none⟩ ∧ w.cell? ⟨g, j * sz + off, none⟩ = some (.int .i64 x) := by
  rcases h with ⟨c, rfl⟩ | ⟨g, n, cap, rfl, hc⟩
  · exact ⟨none, 0, c, rfl, fun j hj => by omega⟩
  · exact ⟨_, n, cap, rfl, fun j hj => ⟨g, rfl, hc j hj⟩⟩
set_option maxRecDepth 100000 in
set_option maxHeartbeats 4000000 in
theorem mstill_any {w : World} {mb o : Nat} {vI vS vK vP : Value} {I S K P : List Value} (h : BookAt w mb o vI vS vK vP I S K P) (hn : I.length ≤ 1000000000 ∧ S.length ≤ 1000000000 ∧ K.length ≤ 1000000000 ∧ P.length ≤ 1000000000) :
    Calls Tryz.prog 29 #[.pointer (some ⟨mb, o, none⟩)] w fun e w' => e = .returned (.bool true) ∧ Chg (fun _ => False) w w' := by
  have cI := h.cI
  have rI := h.rI
  have mI := h.mI
  obtain ⟨pI, kI, rfl⟩ := row_any rI
  have cS := h.cS
  have rS := h.rS
  have mS := h.mS
  obtain ⟨pS, kS, rfl⟩ := row_any rS
  have cK := h.cK
  have rK := h.rK
  have mK := h.mK
  obtain ⟨pK, kK, rfl⟩ := row_any rK
  have cP := h.cP
  have rP := h.rP
  have mP := h.mP
  obtain ⟨pP, kP, rfl⟩ := row_any rP
  go_enter Tryz.func29, Tryz.ntmps29
  go_wp2_with fail
  go_loopw [3, 4, 5] (fun sk si _ wr => ∃ (i : Nat), si = .int .i64 i ∧ i ≤ I.length ∧ sk = .bool true ∧ Chg (fun _ => False) w wr) (fun _ si _ _ => I.length - (intOf si).toNat)
  case atStart => exact ⟨0, rfl, by omega, rfl, Chg.refl _ _⟩
  case round =>
    obtain ⟨i, rfl, hi, rfl, hc0⟩ := hrel
    have d0 := hc0.cellAt cI id
    by_cases hil : i < I.length
    · obtain ⟨u, hu⟩ : ∃ u, I[i]? = some u := ⟨_, List.getElem?_eq_getElem hil⟩
      have hil' : (i : Int) < (I.length : Int) := by omega
      obtain ⟨g, cap, hv, _, _, hcell⟩ := row_pos rI (by omega)
      simp only [Value.slice.injEq] at hv
      obtain ⟨rfl, _, rfl⟩ := hv
      obtain ⟨pu, nu, cu, rfl, hmk⟩ := (mI i u hu).1.len
      have hnu := (mI i _ hu).2 _ _ _ rfl
      have d1 := hc0.cellAt (hcell i _ hu) id
      go_wp2_with fail
      go_loopw [3, 5] (fun sk sj wq => ∃ (j : Nat), sj = .int .i64 j ∧ j ≤ nu ∧ sk = .bool true ∧ Chg (fun _ => False) w wq) (fun _ sj _ => nu - (intOf sj).toNat)
      case atStart => exact ⟨0, rfl, by omega, rfl, hc0⟩
      case round =>
        obtain ⟨j, rfl, hj, rfl, hcj⟩ := hrel
        have b0 := hcj.cellAt cI id
        have b1 := hcj.cellAt (hcell i _ hu) id
        by_cases hjl : j < nu
        · have hjl' : (j : Int) < (nu : Int) := by omega
          obtain ⟨gu, rfl, hcu⟩ := hmk j hjl
          have b2 := hcj.cellAt hcu id
          (try simp only [Nat.mul_one, Nat.add_zero] at b2)
          obtain ⟨X, hX⟩ : ∃ X : Int, X = 1000000 + ((i / 4 : Nat) : Int) := ⟨_, rfl⟩
          have hq : (1000000 : Int) + (i : Int) / 4 = X := by rw [hX]; omega
          have hXr : 0 ≤ X ∧ X ≤ 2000000000 := by omega
          rw [← hX] at b2
          clear hX hmk hcu
          go_wp2_with fail
          go_roundw
          case rel => exact ⟨j + 1, by go_num, by omega, by first | rfl | simp, hcj⟩
          case measure => simp [intOf]; omega
        · have hjl' : ¬ (j : Int) < (nu : Int) := by omega
          go_wp2_with fail
          go_roundw
          case rel => exact ⟨i + 1, by go_num, by omega, rfl, hcj⟩
          case measure => simp [intOf]; omega
    · have hil' : ¬ (i : Int) < (I.length : Int) := by omega
      go_wp2_with fail
      go_loopw [3, 6, 7] (fun sk si _ wr => ∃ (i : Nat), si = .int .i64 i ∧ i ≤ S.length ∧ sk = .bool true ∧ Chg (fun _ => False) w wr) (fun _ si _ _ => S.length - (intOf si).toNat)
      case atStart => exact ⟨0, rfl, by omega, rfl, hc0⟩
      case round =>
        obtain ⟨i, rfl, hi, rfl, hc1⟩ := hrel
        have d0 := hc1.cellAt cS id
        by_cases hil : i < S.length
        · obtain ⟨u, hu⟩ : ∃ u, S[i]? = some u := ⟨_, List.getElem?_eq_getElem hil⟩
          have hil' : (i : Int) < (S.length : Int) := by omega
          obtain ⟨g, cap, hv, _, _, hcell⟩ := row_pos rS (by omega)
          simp only [Value.slice.injEq] at hv
          obtain ⟨rfl, _, rfl⟩ := hv
          obtain ⟨pu, nu, cu, rfl, hmk⟩ := (mS i u hu).1.len
          have hnu := (mS i _ hu).2 _ _ _ rfl
          have d1 := hc1.cellAt (hcell i _ hu) id
          go_wp2_with fail
          go_loopw [3, 7] (fun sk sj wq => ∃ (j : Nat), sj = .int .i64 j ∧ j ≤ nu ∧ sk = .bool true ∧ Chg (fun _ => False) w wq) (fun _ sj _ => nu - (intOf sj).toNat)
          case atStart => exact ⟨0, rfl, by omega, rfl, hc1⟩
          case round =>
            obtain ⟨j, rfl, hj, rfl, hcj⟩ := hrel
            have b0 := hcj.cellAt cS id
            have b1 := hcj.cellAt (hcell i _ hu) id
            by_cases hjl : j < nu
            · have hjl' : (j : Int) < (nu : Int) := by omega
              obtain ⟨gu, rfl, hcu⟩ := hmk j hjl
              have b2 := hcj.cellAt hcu id
              (try simp only [Nat.mul_one, Nat.add_zero] at b2)
              obtain ⟨X, hX⟩ : ∃ X : Int, X = 1000000 + ((i / 4 : Nat) : Int) := ⟨_, rfl⟩
              have hq : (1000000 : Int) + (i : Int) / 4 = X := by rw [hX]; omega
              have hXr : 0 ≤ X ∧ X ≤ 2000000000 := by omega
              rw [← hX] at b2
              clear hX hmk hcu
              go_wp2_with fail
              go_roundw
              case rel => exact ⟨j + 1, by go_num, by omega, by first | rfl | simp, hcj⟩
              case measure => simp [intOf]; omega
            · have hjl' : ¬ (j : Int) < (nu : Int) := by omega
              go_wp2_with fail
              go_roundw
              case rel => exact ⟨i + 1, by go_num, by omega, rfl, hcj⟩
              case measure => simp [intOf]; omega
        · have hil' : ¬ (i : Int) < (S.length : Int) := by omega
          go_wp2_with fail
          go_loopw [3, 8, 9] (fun sk si _ wr => ∃ (i : Nat), si = .int .i64 i ∧ i ≤ K.length ∧ sk = .bool true ∧ Chg (fun _ => False) w wr) (fun _ si _ _ => K.length - (intOf si).toNat)
          case atStart => exact ⟨0, rfl, by omega, rfl, hc1⟩
          case round =>
            obtain ⟨i, rfl, hi, rfl, hc2⟩ := hrel
            have d0 := hc2.cellAt cK id
            by_cases hil : i < K.length
            · obtain ⟨u, hu⟩ : ∃ u, K[i]? = some u := ⟨_, List.getElem?_eq_getElem hil⟩
              have hil' : (i : Int) < (K.length : Int) := by omega
              obtain ⟨g, cap, hv, _, _, hcell⟩ := row_pos rK (by omega)
              simp only [Value.slice.injEq] at hv
              obtain ⟨rfl, _, rfl⟩ := hv
              obtain ⟨pu, nu, cu, rfl, hmk⟩ := (mK i u hu).1.len
              have hnu := (mK i _ hu).2 _ _ _ rfl
              have d1 := hc2.cellAt (hcell i _ hu) id
              go_wp2_with fail
              go_loopw [3, 9] (fun sk sj wq => ∃ (j : Nat), sj = .int .i64 j ∧ j ≤ nu ∧ sk = .bool true ∧ Chg (fun _ => False) w wq) (fun _ sj _ => nu - (intOf sj).toNat)
              case atStart => exact ⟨0, rfl, by omega, rfl, hc2⟩
              case round =>
                obtain ⟨j, rfl, hj, rfl, hcj⟩ := hrel
                have b0 := hcj.cellAt cK id
                have b1 := hcj.cellAt (hcell i _ hu) id
                by_cases hjl : j < nu
                · have hjl' : (j : Int) < (nu : Int) := by omega
                  obtain ⟨gu, rfl, hcu⟩ := hmk j hjl
                  have b2 := hcj.cellAt hcu id
                  (try simp only [Nat.mul_one, Nat.add_zero] at b2)
                  obtain ⟨X, hX⟩ : ∃ X : Int, X = 1000000 + ((i / 4 : Nat) : Int) := ⟨_, rfl⟩
                  have hq : (1000000 : Int) + (i : Int) / 4 = X := by rw [hX]; omega
                  have hXr : 0 ≤ X ∧ X ≤ 2000000000 := by omega
                  rw [← hX] at b2
                  clear hX hmk hcu
                  go_wp2_with fail
                  go_roundw
                  case rel => exact ⟨j + 1, by go_num, by omega, by first | rfl | simp, hcj⟩
                  case measure => simp [intOf]; omega
                · have hjl' : ¬ (j : Int) < (nu : Int) := by omega
                  go_wp2_with fail
                  go_roundw
                  case rel => exact ⟨i + 1, by go_num, by omega, rfl, hcj⟩
                  case measure => simp [intOf]; omega
            · have hil' : ¬ (i : Int) < (K.length : Int) := by omega
              go_wp2_with fail
              go_loopw [3, 10, 11] (fun sk si _ wr => ∃ (i : Nat), si = .int .i64 i ∧ i ≤ P.length ∧ sk = .bool true ∧ Chg (fun _ => False) w wr) (fun _ si _ _ => P.length - (intOf si).toNat)
              case atStart => exact ⟨0, rfl, by omega, rfl, hc2⟩
              case round =>
                obtain ⟨i, rfl, hi, rfl, hc3⟩ := hrel
                have d0 := hc3.cellAt cP id
                by_cases hil : i < P.length
                · obtain ⟨u, hu⟩ : ∃ u, P[i]? = some u := ⟨_, List.getElem?_eq_getElem hil⟩
                  have hil' : (i : Int) < (P.length : Int) := by omega
                  obtain ⟨g, cap, hv, _, _, hcell⟩ := row_pos rP (by omega)
                  simp only [Value.slice.injEq] at hv
                  obtain ⟨rfl, _, rfl⟩ := hv
                  obtain ⟨pu, nu, cu, rfl, hmk⟩ := (mP i u hu).1.len
                  have hnu := (mP i _ hu).2 _ _ _ rfl
                  have d1 := hc3.cellAt (hcell i _ hu) id
                  go_wp2_with fail
                  go_loopw [3, 11] (fun sk sj wq => ∃ (j : Nat), sj = .int .i64 j ∧ j ≤ nu ∧ sk = .bool true ∧ Chg (fun _ => False) w wq) (fun _ sj _ => nu - (intOf sj).toNat)
                  case atStart => exact ⟨0, rfl, by omega, rfl, hc3⟩
                  case round =>
                    obtain ⟨j, rfl, hj, rfl, hcj⟩ := hrel
                    have b0 := hcj.cellAt cP id
                    have b1 := hcj.cellAt (hcell i _ hu) id
                    by_cases hjl : j < nu
                    · have hjl' : (j : Int) < (nu : Int) := by omega
                      obtain ⟨gu, rfl, hcu⟩ := hmk j hjl
                      have b2 := hcj.cellAt hcu id
                      (try simp only [Nat.mul_one, Nat.add_zero] at b2)
                      obtain ⟨X, hX⟩ : ∃ X : Int, X = 1000000 + ((i / 4 : Nat) : Int) := ⟨_, rfl⟩
                      have hq : (1000000 : Int) + (i : Int) / 4 = X := by rw [hX]; omega
                      have hXr : 0 ≤ X ∧ X ≤ 2000000000 := by omega
                      rw [← hX] at b2
                      clear hX hmk hcu
                      go_wp2_with fail
                      go_roundw
                      case rel => exact ⟨j + 1, by go_num, by omega, by first | rfl | simp, hcj⟩
                      case measure => simp [intOf]; omega
                    · have hjl' : ¬ (j : Int) < (nu : Int) := by omega
                      go_wp2_with fail
                      go_roundw
                      case rel => exact ⟨i + 1, by go_num, by omega, rfl, hcj⟩
                      case measure => simp [intOf]; omega
                · have hil' : ¬ (i : Int) < (P.length : Int) := by omega
                  go_wp2_with fail
                  go_ret
                  exact ⟨rfl, hc3⟩
end Go.Proofs.YthedkdbgfdjlkaaGreatDoor

namespace Go.Proofs.YthedkdbgfdjlkaaGreatDoor
set_option linter.unusedVariables false
set_option linter.unusedSimpArgs false
open Go.RowKit Go.Lib
def reps (mc : List Value) : Nat → List Value
  | 0 => []
  | n + 1 => reps mc n ++ mc
theorem reps_len (mc : List Value) : ∀ n, (reps mc n).length = n * mc.length
  | 0 => by simp [reps]
  | n + 1 => by simp [reps, reps_len mc n, Nat.add_mul]
theorem reps_at (mc : List Value) {off : Nat} (ho : off < mc.length) : ∀ n j, j < n → (reps mc n)[j * mc.length + off]? = mc[off]?
  | 0, j, h => by omega
  | n + 1, j, h => by
    unfold reps
    by_cases e : j = n
    · subst e
      rw [List.getElem?_append_right (by rw [reps_len]; omega), reps_len, Nat.add_sub_cancel_left]
    · have hl : j * mc.length + off < (reps mc n).length := by
        rw [reps_len]
        have : (j + 1) * mc.length ≤ n * mc.length := Nat.mul_le_mul_right _ (by omega)
        rw [Nat.add_mul] at this
        omega
      rw [List.getElem?_append_left hl]
      exact reps_at mc ho n j (by omega)
theorem reps_mem (mc : List Value) {u : Value} : ∀ n, u ∈ reps mc n → u ∈ mc
  | 0, h => by simp [reps] at h
  | n + 1, h => by
    unfold reps at h
    rcases List.mem_append.1 h with h | h
    · exact reps_mem mc n h
    · exact h
theorem Mk.step' {w w' : World} {sz off : Nat} {x : Int} {u v : Value} (h : Mk w sz off x u) (c : Chg (fun k => v.ownBlock = some k) w w') (k : ∀ g, v.ownBlock = some g → Ink sz off x g w w') : Mk w' sz off x u := by
  refine h.ink (fun g hg => ?_)
  by_cases e : v.ownBlock = some g
  · exact k g e
  · exact fun j y hy => .inl (c.cellAt hy e)
theorem mk_of_row {w : World} {lo : Nat} {e : TypeId} {sz off : Nat} {v : Value} {n : Nat} {xs : List Value} {x : Int} (h : w.ownsRow lo e sz v n xs) (hx : ∀ j, j < n → xs[j * sz + off]? = some (.int .i64 x)) : Mk w sz off x v := by
  rcases h.2 with ⟨hv, _⟩ | ⟨g, cap, cur, hv, _⟩
  · exact .inl ⟨0, hv⟩
  · refine .inr ⟨g, n, cap, hv, fun j hj => ?_⟩
    subst hv
    exact row_cell h (hx j hj)
theorem marks3 {P : Program} (w : World) (lo : Nat) (t e : TypeId) (i : TypeInfo) (z : Value) (bytes : Nat) (mc : List Value) (off : Nat) (x : Int) (h1 : P.underlying t = some (.slice e)) (h2 : P.info? e = some i) (h3 : i.zero = some z) (h4 : i.size = mc.length) (h5 : i.bytes = bytes) (h6 : z.cells.size = mc.length) (h7 : 0 < mc.length)
    (h8 : mc[off]? = some (.int .i64 x)) (h9 : ∀ u ∈ mc, u.oneCell' = true) (hby : bytes ≤ 1000) (v : Value) (n : Nat) (hn : n ≤ 1000) (hown : w.ownsRow lo e mc.length v n (reps mc n)) (hlo : lo ≤ w.heap.size) :
    ∃ v1 w1 v2 w2 v3 w3, (Builtin.append_ #[t, t] t #[v, .slice (some ⟨w.heap.size, 0, none⟩) 1 1]).run P (w.alloc (.cells (reps mc 1).toArray e)) = .ok v1 w1 ∧
      (Builtin.append_ #[t, t] t #[v, .slice (some ⟨w1.heap.size, 0, none⟩) 2 2]).run P (w1.alloc (.cells (reps mc 2).toArray e)) = .ok v2 w2 ∧
      (Builtin.append_ #[t, t] t #[v, .slice (some ⟨w2.heap.size, 0, none⟩) 3 3]).run P (w2.alloc (.cells (reps mc 3).toArray e)) = .ok v3 w3 ∧
      (∃ p1 k1 p2 k2 p3 k3, v1 = .slice p1 (n + 1) k1 ∧ v2 = .slice p2 (n + 2) k2 ∧ v3 = .slice p3 (n + 3) k3) ∧
      Chg (fun k => v.ownBlock = some k) w w1 ∧ Chg (fun k => v.ownBlock = some k) w1 w2 ∧ Chg (fun k => v.ownBlock = some k) w2 w3 ∧ w3.ownsRow lo e mc.length v n (reps mc n) ∧
      ∀ u, u = v ∨ u = v1 ∨ u = v2 ∨ u = v3 → Mk w3 mc.length off x u ∧ (u.ownBlock = v.ownBlock ∨ ∀ k, u.ownBlock = some k → w.heap.size ≤ k) := by
  have ho : off < mc.length := (List.getElem?_eq_some_iff.1 h8).1
  have hat : ∀ m j, j < m → (reps mc m)[j * mc.length + off]? = some (.int .i64 x) := fun m j hj => (reps_at mc ho m j hj).trans h8
  have hnew : ∀ (W : World) (m j : Nat) (u : Value), (reps mc m)[j]? = some u → (W.alloc (.cells (reps mc m).toArray e)).cell? ((⟨W.heap.size, 0, none⟩ : Addr).add j) = some u := fun W m j u hu => by
    rw [add_lit', Nat.zero_add, World.cell?_alloc_new]
    simpa using hu
  have hone : ∀ m, ∀ u ∈ reps mc m, u.oneCell' = true := fun m u hu => h9 u (reps_mem mc m hu)
  have hb : ∀ m, m ≤ 3 → (n + m) * bytes ≤ 140737488355328 := fun m hm => by
    have : (n + m) * bytes ≤ 1003 * 1000 := Nat.mul_le_mul (by omega) hby
    omega
  obtain ⟨v1, w1, r1, o1, M1, c1, k1, e1, p1, q1, f1⟩ := run_mark (P := P) (w.alloc (.cells (reps mc 1).toArray e)) lo t t e i z mc.length bytes h1 h2 h3 h4 h5 h6 h7 v n _ (hown.alloc _) ⟨w.heap.size, 0, none⟩ 1 1 (reps mc 1) (reps_len mc 1) (hnew w 1) (hone 1) (by unfold maxLen; omega) (hb 1 (by omega)) (by simp; omega) off ho x (fun j hj => hat n j hj) (fun j hj => hat 1 j hj)
  have a1 : Chg (fun k => v.ownBlock = some k) w w1 := ((Chg.refl (fun k => v.ownBlock = some k) w).alloc _).trans c1 (fun _ _ h => h)
  have z1 := a1.size
  obtain ⟨v2, w2, r2, o2, M2, c2, k2, e2, p2, q2, f2⟩ := run_mark (P := P) (w1.alloc (.cells (reps mc 2).toArray e)) lo t t e i z mc.length bytes h1 h2 h3 h4 h5 h6 h7 v n _ (o1.alloc _) ⟨w1.heap.size, 0, none⟩ 2 2 (reps mc 2) (reps_len mc 2) (hnew w1 2) (hone 2) (by unfold maxLen; omega) (hb 2 (by omega)) (by simp; omega) off ho x (fun j hj => hat n j hj) (fun j hj => hat 2 j hj)
  have a2 : Chg (fun k => v.ownBlock = some k) w1 w2 := ((Chg.refl (fun k => v.ownBlock = some k) w1).alloc _).trans c2 (fun _ _ h => h)
  have z2 := a2.size
  obtain ⟨v3, w3, r3, o3, M3, c3, k3, e3, p3, q3, f3⟩ := run_mark (P := P) (w2.alloc (.cells (reps mc 3).toArray e)) lo t t e i z mc.length bytes h1 h2 h3 h4 h5 h6 h7 v n _ (o2.alloc _) ⟨w2.heap.size, 0, none⟩ 3 3 (reps mc 3) (reps_len mc 3) (hnew w2 3) (hone 3) (by unfold maxLen; omega) (hb 3 (by omega)) (by simp; omega) off ho x (fun j hj => hat n j hj) (fun j hj => hat 3 j hj)
  have a3 : Chg (fun k => v.ownBlock = some k) w2 w3 := ((Chg.refl (fun k => v.ownBlock = some k) w2).alloc _).trans c3 (fun _ _ h => h)
  have M12 := (M1.chg ((Chg.refl (fun _ => False) w1).alloc _) (fun _ _ h => h)).step' c2 k2
  have M13 := (M12.chg ((Chg.refl (fun _ => False) w2).alloc _) (fun _ _ h => h)).step' c3 k3
  have M23 := (M2.chg ((Chg.refl (fun _ => False) w2).alloc _) (fun _ _ h => h)).step' c3 k3
  refine ⟨v1, w1, v2, w2, v3, w3, r1, r2, r3, ⟨p1, q1, p2, q2, p3, q3, f1, f2, f3⟩, a1, a2, a3, o3, fun u hu => ?_⟩
  rcases hu with rfl | rfl | rfl | rfl
  · exact ⟨mk_of_row o3 (fun j hj => hat n j hj), .inl rfl⟩
  · exact ⟨M13, e1.imp id (fun h k hk => by have := h k hk; simp at this; omega)⟩
  · exact ⟨M23, e2.imp id (fun h k hk => by have := h k hk; simp at this; omega)⟩
  · exact ⟨M3, e3.imp id (fun h k hk => by have := h k hk; simp at this; omega)⟩
end Go.Proofs.YthedkdbgfdjlkaaGreatDoor

namespace Go.Proofs.YthedkdbgfdjlkaaGreatDoor
set_option linter.unusedVariables false
set_option linter.unusedSimpArgs false
open Go.RowKit Go.Lib
def bsz : Nat → Nat
  | 0 => 1
  | 1 => 3
  | 2 => 4
  | _ => 3
def boff : Nat → Nat
  | 0 => 0
  | _ => 1
def bty : Nat → TypeId
  | 0 => 36
  | 1 => 43
  | 2 => 44
  | _ => 56
theorem bty_ne {x y : Nat} (hx : x < 4) (hy : y < 4) (h : x ≠ y) : bty x ≠ bty y := by
  rcases (by omega : x = 0 ∨ x = 1 ∨ x = 2 ∨ x = 3) with rfl | rfl | rfl | rfl <;> rcases (by omega : y = 0 ∨ y = 1 ∨ y = 2 ∨ y = 3) with rfl | rfl | rfl | rfl <;> first | exact absurd rfl h | decide
def putAt {α : Type} (f : Nat → α) (x : Nat) (v : α) : Nat → α := fun y => if y = x then v else f y
theorem putAt_at {α : Type} (f : Nat → α) (x : Nat) (v : α) : putAt f x v x = v := by simp [putAt]
theorem putAt_ne {α : Type} (f : Nat → α) {x y : Nat} (v : α) (h : y ≠ x) : putAt f x v y = f y := by simp [putAt, h]
structure Book (w : World) (mb o : Nat) (B : Nat → Prop) (r : Nat → Value) (L : Nat → List Value) : Prop where
  fz : ∀ j, w.frozen? ⟨mb, j, none⟩ = false
  cell : ∀ x, x < 4 → w.cell? ⟨mb, o + x, none⟩ = some (r x)
  row : ∀ x, x < 4 → w.ownsRow 0 (bty x) 1 (r x) (L x).length (L x)
  quad : ∀ x, x < 4 → (L x).length % 4 = 0
  inked : ∀ x, x < 4 → ∀ (i : Nat) (u : Value), (L x)[i]? = some u → Mk w (bsz x) (boff x) (1000000 + ((i / 4 : Nat) : Int)) u ∧ shortV u
  rows : ∀ x, x < 4 → ∀ g, (r x).ownBlock = some g → B g
  list : ∀ x, x < 4 → ∀ u ∈ L x, ∀ g, u.ownBlock = some g → B g ∧ ∀ y, y < 4 → (r y).ownBlock ≠ some g
  own : ∀ g, B g → g ≠ mb ∧ g < w.heap.size
theorem Book.bookAt {w : World} {mb o : Nat} {B : Nat → Prop} {r : Nat → Value} {L : Nat → List Value} (h : Book w mb o B r L) : BookAt w mb o (r 0) (r 1) (r 2) (r 3) (L 0) (L 1) (L 2) (L 3) :=
  ⟨h.cell 0 (by omega), h.cell 1 (by omega), h.cell 2 (by omega), h.cell 3 (by omega), h.row 0 (by omega), h.row 1 (by omega), h.row 2 (by omega), h.row 3 (by omega), h.inked 0 (by omega), h.inked 1 (by omega), h.inked 2 (by omega), h.inked 3 (by omega)⟩
theorem Book.lt {w : World} {mb o : Nat} {B : Nat → Prop} {r : Nat → Value} {L : Nat → List Value} (h : Book w mb o B r L) : mb < w.heap.size := World.block_lt_of_cell? _ _ (h.cell 0 (by omega))
theorem Book.chg {F B : Nat → Prop} {w w' : World} {mb o : Nat} {r : Nat → Value} {L : Nat → List Value} (h : Book w mb o B r L) (hc : Chg F w w') (hF : ∀ g, F g → ¬ B g ∧ g ≠ mb) : Book w' mb o B r L where
  fz j := (World.frozen?_of_block (hc.block mb h.lt (fun f => (hF _ f).2 rfl))).trans (h.fz j)
  cell x hx := hc.cellAt (h.cell x hx) (fun f => (hF _ f).2 rfl)
  row x hx := hc.row' (h.row x hx) (fun g hg f => (hF g f).1 (h.rows x hx g hg))
  quad := h.quad
  inked x hx i u hu := ⟨(h.inked x hx i u hu).1.chg hc (fun g hg f => (hF g f).1 (h.list x hx u (List.mem_of_getElem? hu) g hg).1), (h.inked x hx i u hu).2⟩
  rows := h.rows
  list := h.list
  own g hg := ⟨(h.own g hg).1, Nat.lt_of_lt_of_le (h.own g hg).2 hc.size⟩
theorem Mk.slice {w : World} {sz off : Nat} {x : Int} {v : Value} (h : Mk w sz off x v) : ∃ p n c, v = .slice p n c := by
  obtain ⟨p, n, c, e, _⟩ := h.len
  exact ⟨p, n, c, e⟩
theorem Book.step {w w' : World} {mb o : Nat} {B : Nat → Prop} {r : Nat → Value} {L : Nat → List Value} (h : Book w mb o B r L) {x lo n : Nat} (hx : x < 4) {v v1 v2 v3 r' : Value} (hn : n ≤ 997)
    (hv : ∀ g, v.ownBlock = some g → ¬ B g ∧ g ≠ mb ∧ g < w.heap.size)
    (hc : w'.cell? ⟨mb, o + x, none⟩ = some r') (hr : w'.ownsRow lo (bty x) 1 r' ((L x).length + 4) (L x ++ [v, v1, v2, v3]))
    (hm : ∀ u, u = v ∨ u = v1 ∨ u = v2 ∨ u = v3 → Mk w' (bsz x) (boff x) (1000000 + (((L x).length / 4 : Nat) : Int)) u ∧ Lst w.heap.size n v u)
    (hw : Wh w.heap.size (r x) r') (hs : Slots mb (fun j => j = o + x) w w') (cc : Chg (fun k => k = mb ∨ (r x).ownBlock = some k ∨ v.ownBlock = some k) w w') :
    Book w' mb o (fun g => B g ∨ v.ownBlock = some g ∨ w.heap.size ≤ g ∧ g < w'.heap.size) (putAt r x r') (putAt L x (L x ++ [v, v1, v2, v3])) := by
  have hmb := h.lt
  have hsz := cc.size
  have hnew : ∀ u, u ∈ [v, v1, v2, v3] → Mk w' (bsz x) (boff x) (1000000 + (((L x).length / 4 : Nat) : Int)) u ∧ Lst w.heap.size n v u := fun u hu => hm u (by simpa using hu)
  have hold : ∀ y, y < 4 → ∀ u ∈ L y, ∀ g, u.ownBlock = some g → ¬ (g = mb ∨ (r x).ownBlock = some g ∨ v.ownBlock = some g) := fun y hy u hu g hg hk => by
    have hl := h.list y hy u hu g hg
    rcases hk with e | e | e
    · exact (h.own g hl.1).1 e
    · exact hl.2 x hx e
    · exact (hv g e).1 hl.1
  have hr' : ∀ g, r'.ownBlock = some g → (r x).ownBlock = some g ∨ w.heap.size ≤ g ∧ g < w'.heap.size := fun g hg => by
    rcases hw with e | e
    · exact .inl (by rw [← e]; exact hg)
    · exact .inr ⟨e g hg, (hr.lt g hg).2⟩
  have hcells : ∀ g, r'.ownBlock = some g → ∃ p m k, w'.cell? ⟨g, boff x, none⟩ = some (.slice p m k) := fun g hg => by
    obtain ⟨g', cap, hv', _, _, hcl⟩ := row_pos hr (by omega)
    rw [hv'] at hg
    simp only [Value.ownBlock, Option.map_some, Option.some.injEq] at hg
    subst hg
    have hbo : boff x < (L x ++ [v, v1, v2, v3]).length := by
      have : boff x ≤ 1 := by unfold boff; split <;> omega
      simp
      omega
    obtain ⟨u, hu⟩ : ∃ u, (L x ++ [v, v1, v2, v3])[boff x]? = some u := ⟨_, List.getElem?_eq_getElem hbo⟩
    have hsl : ∃ p m k, u = .slice p m k := by
      rcases List.mem_append.1 (List.mem_of_getElem? hu) with hin | hin
      · obtain ⟨i, hi, ei⟩ := List.getElem_of_mem hin
        exact (h.inked x hx i u (by rw [List.getElem?_eq_getElem hi, ei])).1.slice
      · exact (hnew u hin).1.slice
    obtain ⟨p, m, k, rfl⟩ := hsl
    exact ⟨p, m, k, hcl _ _ hu⟩
  have hlist : ∀ u, u ∈ [v, v1, v2, v3] → ∀ g, u.ownBlock = some g → (B g ∨ v.ownBlock = some g ∨ w.heap.size ≤ g ∧ g < w'.heap.size) ∧ ∀ y, y < 4 → (putAt r x r' y).ownBlock ≠ some g := fun u hu g hg => by
    obtain ⟨hM, hwu, p, m, k, eu, _, hpos⟩ := hnew u hu
    by_cases hvg : v.ownBlock = some g
    · have h0 := hv g hvg
      refine ⟨.inr (.inl hvg), fun y hy e => ?_⟩
      by_cases hyx : y = x
      · subst hyx
        rw [putAt_at] at e
        rcases hr' g e with e1 | e1
        · exact h0.1 (h.rows _ hx g e1)
        · omega
      · rw [putAt_ne _ _ hyx] at e
        exact h0.1 (h.rows y hy g e)
    · have hge : w.heap.size ≤ g := by
        rcases hwu with e | e
        · exact absurd (e ▸ hg) hvg
        · exact e g hg
      have hm0 : 0 < m := by
        rcases hpos with e | e
        · exact absurd (e ▸ hg) hvg
        · exact e
      have hcu : w'.cell? ⟨g, boff x, none⟩ = some (.int .i64 (1000000 + (((L x).length / 4 : Nat) : Int))) := by
        rcases hM with ⟨c, e⟩ | ⟨g', n', cap, e, hcl⟩
        · rw [eu] at e; simp at e; omega
        · rw [eu] at e
          simp only [Value.slice.injEq] at e
          obtain ⟨rfl, rfl, rfl⟩ := e
          subst eu
          simp only [Value.ownBlock, Option.map_some, Option.some.injEq] at hg
          subst hg
          have := hcl 0 hm0
          rw [Nat.zero_mul, Nat.zero_add] at this
          exact this
      refine ⟨.inr (.inr ⟨hge, World.block_lt_of_cell? _ _ hcu⟩), fun y hy e => ?_⟩
      by_cases hyx : y = x
      · subst hyx
        rw [putAt_at] at e
        obtain ⟨p', m', k', hc'⟩ := hcells g e
        rw [hcu] at hc'
        simp at hc'
      · rw [putAt_ne _ _ hyx] at e
        have := (h.own g (h.rows y hy g e)).2
        omega
  refine ⟨fun j => (hs.frozen j).trans (h.fz j), fun y hy => ?_, fun y hy => ?_, fun y hy => ?_, fun y hy i u hu => ?_, fun y hy g hg => ?_, fun y hy u hu g hg => ?_, fun g hg => ?_⟩
  · by_cases e : y = x
    · subst e; rw [putAt_at]; exact hc
    · rw [putAt_ne _ _ e]; exact (hs.cell (o + y) (by omega)).trans (h.cell y hy)
  · by_cases e : y = x
    · subst e
      rw [putAt_at, putAt_at]
      have : (L y ++ [v, v1, v2, v3]).length = (L y).length + 4 := by simp
      rw [this]
      exact row_lower hr (Nat.zero_le _)
    · rw [putAt_ne _ _ e, putAt_ne _ _ e]
      refine cc.row' (h.row y hy) (fun g hg hk => ?_)
      have hB := h.rows y hy g hg
      rcases hk with e1 | e1 | e1
      · exact (h.own g hB).1 e1
      · exact row_kinds (h.row y hy) (h.row x hx) (bty_ne hy hx e) g hg e1
      · exact (hv g e1).1 hB
  · by_cases e : y = x
    · subst e; rw [putAt_at]; have := h.quad _ hx; simp; omega
    · rw [putAt_ne _ _ e]; exact h.quad y hy
  · by_cases e : y = x
    · subst e
      rw [putAt_at] at hu
      by_cases hi : i < (L y).length
      · rw [List.getElem?_append_left hi] at hu
        have hq := h.inked y hx i u hu
        exact ⟨hq.1.chg cc (fun g hg => hold y hx u (List.mem_of_getElem? hu) g hg), hq.2⟩
      · rw [List.getElem?_append_right (by omega)] at hu
        have hd := (List.getElem?_eq_some_iff.1 hu).1
        simp at hd
        have hi4 : i / 4 = (L y).length / 4 := by have := h.quad _ hx; omega
        rw [hi4]
        obtain ⟨hM, _, p, m, k, eu, hm3, _⟩ := hnew u (List.mem_of_getElem? hu)
        refine ⟨hM, fun p' n' c' e' => ?_⟩
        rw [eu] at e'
        simp only [Value.slice.injEq] at e'
        omega
    · rw [putAt_ne _ _ e] at hu
      have hq := h.inked y hy i u hu
      exact ⟨hq.1.chg cc (fun g hg => hold y hy u (List.mem_of_getElem? hu) g hg), hq.2⟩
  · by_cases e : y = x
    · subst e
      rw [putAt_at] at hg
      rcases hr' g hg with e1 | e1
      · exact .inl (h.rows _ hx g e1)
      · exact .inr (.inr e1)
    · rw [putAt_ne _ _ e] at hg
      exact .inl (h.rows y hy g hg)
  · have hin : u ∈ L y ∨ u ∈ [v, v1, v2, v3] := by
      by_cases e : y = x
      · subst e; rw [putAt_at] at hu; exact List.mem_append.1 hu
      · rw [putAt_ne _ _ e] at hu; exact .inl hu
    rcases hin with hin | hin
    · have hl := h.list y hy u hin g hg
      refine ⟨.inl hl.1, fun z hz e => ?_⟩
      by_cases hzx : z = x
      · subst hzx
        rw [putAt_at] at e
        rcases hr' g e with e1 | e1
        · exact hl.2 _ hx e1
        · have := (h.own g hl.1).2; omega
      · rw [putAt_ne _ _ hzx] at e
        exact hl.2 z hz e
    · exact hlist u hin g hg
  · rcases hg with e | e | e
    · exact ⟨(h.own g e).1, Nat.lt_of_lt_of_le (h.own g e).2 hsz⟩
    · exact ⟨(hv g e).2.1, Nat.lt_of_lt_of_le (hv g e).2.2 hsz⟩
    · exact ⟨by omega, e.2⟩
end Go.Proofs.YthedkdbgfdjlkaaGreatDoor

namespace Go.Proofs.YthedkdbgfdjlkaaGreatDoor
set_option linter.unusedVariables false
set_option linter.unusedSimpArgs false
open Go.RowKit Go.Lib
theorem book_marks {P : Program} {wr wq : World} {mb o lo : Nat} {B : Nat → Prop} {r : Nat → Value} {L : Nat → List Value} (h : Book wr mb o B r L) {x : Nat} (hx : x < 4) (t tt e : TypeId) (i i2 : TypeInfo) (z : Value) (bytes : Nat) (mc : List Value) (X : Int)
    (h1 : P.underlying t = some (.slice e)) (h2 : P.info? e = some i) (h3 : i.zero = some z) (h4 : i.size = mc.length) (h5 : i.bytes = bytes) (h6 : z.cells.size = mc.length) (h7 : 0 < mc.length) (h8 : mc[boff x]? = some (.int .i64 X)) (h9 : ∀ u ∈ mc, u.oneCell' = true) (hby : bytes ≤ 1000) (hsz : mc.length = bsz x)
    (u1 : P.underlying tt = some (.slice (bty x))) (u2 : P.info? (bty x) = some i2) (u3 : i2.zero = some (.slice none 0 0)) (u4 : i2.size = 1) (u5 : i2.bytes = 24)
    (hX : X = 1000000 + (((L x).length / 4 : Nat) : Int)) (v : Value) (n : Nat) (hn : n ≤ 997) (hv : ∀ g, v.ownBlock = some g → ¬ B g ∧ g ≠ mb ∧ g < wr.heap.size) (hq : Chg (fun k => v.ownBlock = some k) wr wq) (hown : wq.ownsRow lo e mc.length v n (reps mc n)) (hlo : lo ≤ wr.heap.size) (hlen : (L x).length ≤ 1000000000) :
    ∃ v1 w1 v2 w2 v3 w3 vF wF, (Builtin.append_ #[t, t] t #[v, .slice (some ⟨wq.heap.size, 0, none⟩) 1 1]).run P (wq.alloc (.cells (reps mc 1).toArray e)) = .ok v1 w1 ∧
      (Builtin.append_ #[t, t] t #[v, .slice (some ⟨w1.heap.size, 0, none⟩) 2 2]).run P (w1.alloc (.cells (reps mc 2).toArray e)) = .ok v2 w2 ∧
      (Builtin.append_ #[t, t] t #[v, .slice (some ⟨w2.heap.size, 0, none⟩) 3 3]).run P (w2.alloc (.cells (reps mc 3).toArray e)) = .ok v3 w3 ∧
      (Builtin.append_ #[tt, tt] tt #[r x, .slice (some ⟨w3.heap.size, 0, none⟩) 4 4]).run P (w3.drew.alloc (.cells #[v, v1, v2, v3] (bty x))) = .ok vF wF ∧
      (∃ p1 k1 p2 k2 p3 k3 pF kF, v1 = .slice p1 (n + 1) k1 ∧ v2 = .slice p2 (n + 2) k2 ∧ v3 = .slice p3 (n + 3) k3 ∧ vF = .slice pF ((L x).length + 4) kF) ∧
      Chg (fun k => v.ownBlock = some k) wr w1 ∧ Chg (fun k => v.ownBlock = some k) wr w2 ∧ Chg (fun k => v.ownBlock = some k) wr w3 ∧ Chg (fun k => (r x).ownBlock = some k) w3.drew wF ∧
      wF.cell? ⟨mb, o + x, none⟩ = some (r x) ∧ wF.frozen? ⟨mb, o + x, none⟩ = false ∧
      Book (wF.setCell ⟨mb, o + x, none⟩ vF) mb o (fun g => B g ∨ v.ownBlock = some g ∨ wr.heap.size ≤ g ∧ g < (wF.setCell ⟨mb, o + x, none⟩ vF).heap.size) (putAt r x vF) (putAt L x (L x ++ [v, v1, v2, v3])) ∧
      Chg (fun k => k = mb ∨ (r x).ownBlock = some k ∨ v.ownBlock = some k) wr (wF.setCell ⟨mb, o + x, none⟩ vF) ∧ Slots mb (fun j => j = o + x) wr (wF.setCell ⟨mb, o + x, none⟩ vF) := by
  have hmb := h.lt
  have hsq := hq.size
  obtain ⟨v1, w1, v2, w2, v3, w3, r1, r2, r3, ⟨p1, k1, p2, k2, p3, k3, f1, f2, f3⟩, c1, c2, c3, o3, hm⟩ := marks3 (P := P) wq lo t e i z bytes mc (boff x) X h1 h2 h3 h4 h5 h6 h7 h8 h9 hby v n (by omega) hown (by omega)
  have d1 := hq.trans c1 (fun _ _ h => h)
  have d2 := d1.trans c2 (fun _ _ h => h)
  have d3 := d2.trans c3 (fun _ _ h => h)
  have hs3 := d3.size
  have hvr : ∀ y, y < 4 → ∀ g, (r y).ownBlock = some g → v.ownBlock ≠ some g := fun y hy g hg e => (hv g e).1 (h.rows y hy g hg)
  have hr3 := d3.row' (h.row x hx) (fun g hg e => hvr x hx g hg e)
  have hvm : v.ownBlock ≠ some mb := fun e => (hv mb e).2.1 rfl
  have hrm : (r x).ownBlock ≠ some mb := fun e => (h.own mb (h.rows x hx mb e)).1 rfl
  obtain ⟨vF, wF, rF, oF, gF, eF⟩ := run_append_where (P := P) (w3.drew.alloc (.cells #[v, v1, v2, v3] (bty x))) 0 tt tt (bty x) i2 _ 1 24 u1 u2 u3 u4 u5 rfl (by decide) _ _ _ ((World.ownsRow.drew hr3).alloc _) ⟨w3.heap.size, 0, none⟩ 4 4 [v, v1, v2, v3] rfl (fun j y hj => by
    have e0 : w3.heap.size = w3.drew.heap.size := rfl
    rw [add_lit', Nat.zero_add, e0, World.cell?_alloc_new]
    simpa using hj) (fun u hu => by
      simp only [List.mem_cons, List.not_mem_nil, or_false] at hu
      obtain ⟨p, m, c, rfl⟩ := (hm u hu).1.slice
      rfl) (by unfold maxLen; omega) (by omega) (Nat.zero_le _)
  have cF : Chg (fun g => (r x).ownBlock = some g) w3.drew wF := ((Chg.refl (fun g => (r x).ownBlock = some g) w3.drew).alloc _).trans (G := fun g => (r x).ownBlock = some g) ⟨gF.os, gF.tape, gF.output, gF.size, fun k hk hne => gF.block k hk (fun e => hne e.symm)⟩ (fun _ _ h => h)
  obtain ⟨pF, kF, hpF⟩ := row_any oF
  have cF3 : Chg (fun g => (r x).ownBlock = some g) w3 wF := (Chg.refl _ w3).drew.trans cF (fun _ _ h => h)
  have hsF := cF3.size
  have hwF : Wh wr.heap.size (r x) vF := eF.imp id (fun e k hk => by
    have := e k hk
    rw [World.size_alloc] at this
    have e0 : w3.drew.heap.size = w3.heap.size := rfl
    omega)
  have nF : vF.ownBlock ≠ some mb := by
    rcases hwF with e | e
    · rw [e]; exact hrm
    · intro hk; have := e _ hk; omega
  have dF : wF.cell? ⟨mb, o + x, none⟩ = some (r x) := cF3.cellAt (d3.cellAt (h.cell x hx) hvm) hrm
  have hbF : wF.heap[mb]? = wr.heap[mb]? := (cF3.block mb (by omega) hrm).trans (d3.block mb hmb hvm)
  have fF : wF.frozen? ⟨mb, o + x, none⟩ = false := (World.frozen?_of_block (w := wr) hbF).trans (h.fz (o + x))
  have cS : Chg (fun q => q = mb) wF (wF.setCell ⟨mb, o + x, none⟩ vF) := (Chg.refl (fun q => q = mb) wF).setCell (p := ⟨mb, o + x, none⟩) (fun _ => rfl) _
  have hcc : Chg (fun k => k = mb ∨ (r x).ownBlock = some k ∨ v.ownBlock = some k) wr (wF.setCell ⟨mb, o + x, none⟩ vF) := ((d3.mono (fun q hq => .inr (.inr hq))).trans cF3 (fun _ _ h => .inr (.inl h))).trans cS (fun _ _ h => .inl h)
  have hsl : Slots mb (fun j => j = o + x) wr (wF.setCell ⟨mb, o + x, none⟩ vF) := (Slots.of_block _ hbF).setCell (p := ⟨mb, o + x, none⟩) _ (fun _ => rfl)
  have hub : ∀ u, u = v ∨ u = v1 ∨ u = v2 ∨ u = v3 → (u.ownBlock = v.ownBlock ∨ ∀ k, u.ownBlock = some k → wr.heap.size ≤ k) := fun u hu => (hm u hu).2.imp id (fun e k hk => by have := e k hk; omega)
  have hM : ∀ u, u = v ∨ u = v1 ∨ u = v2 ∨ u = v3 → Mk (wF.setCell ⟨mb, o + x, none⟩ vF) (bsz x) (boff x) X u := fun u hu => by
    rw [← hsz]
    have hb : ∀ g, u.ownBlock = some g → (r x).ownBlock ≠ some g ∧ g ≠ mb := fun g hg => by
      rcases hub u hu with e | e
      · have := hv g (e ▸ hg)
        exact ⟨fun e2 => this.1 (h.rows x hx g e2), this.2.1⟩
      · have h0 := e g hg
        exact ⟨fun e2 => by have := (h.own g (h.rows x hx g e2)).2; omega, by omega⟩
    exact ((hm u hu).1.chg cF3 (fun g hg e2 => (hb g hg).1 e2)).chg cS (fun g hg e2 => (hb g hg).2 e2)
  have hvf : ∃ p k, v = .slice p n k := row_any hown
  refine ⟨v1, w1, v2, w2, v3, w3, vF, wF, r1, r2, r3, rF, ⟨p1, k1, p2, k2, p3, k3, pF, kF, f1, f2, f3, hpF⟩, d1, d2, d3, cF, dF, fF, ?_, hcc, hsl⟩
  refine h.step hx (n := n) hn hv (World.cell?_setCell_same _ _ _ dF) (cS.row' oF (fun q hq e => nF (by rw [← e]; exact hq))) (fun u hu => ⟨hX ▸ hM u hu, hub u hu, ?_⟩) hwF hsl hcc
  obtain ⟨pv, kv, ev⟩ := hvf
  rcases hu with rfl | rfl | rfl | rfl
  · exact ⟨pv, n, kv, ev, by omega, .inl rfl⟩
  · exact ⟨p1, n + 1, k1, f1, by omega, .inr (by omega)⟩
  · exact ⟨p2, n + 2, k2, f2, by omega, .inr (by omega)⟩
  · exact ⟨p3, n + 3, k3, f3, by omega, .inr (by omega)⟩
end Go.Proofs.YthedkdbgfdjlkaaGreatDoor

namespace Go.Proofs.YthedkdbgfdjlkaaGreatDoor
set_option linter.unusedVariables false
set_option linter.unusedSimpArgs false
open Go.RowKit Go.Lib
def Yet (sb : Nat) (vs vk : Value) (us : List Value) (k : Nat) (g : Nat) : Prop := g = sb ∨ vs.ownBlock = some g ∨ vk.ownBlock = some g ∨ ∃ (j : Nat) (u : Value), k ≤ j ∧ us[j]? = some u ∧ u.ownBlock = some g
structure MS (w : World) (lo mb o : Nat) (B : Nat → Prop) (L : Nat → List Value) (vs vk : Value) (s : St) (us : List Value) (k : Nat) (wr : World) (B' : Nat → Prop) (r' : Nat → Value) (L' : Nat → List Value) : Prop where
  book : Book wr mb o B' r' L'
  len0 : (L' 0).length = (L 0).length + 4 * k
  len : ∀ x, x < 4 → x ≠ 0 → (L' x).length = (L x).length
  old : ∀ g, B' g → (B g ∨ lo ≤ g) ∧ ¬ Yet w.heap.size vs vk us k g
  sess : wr.ownsRow lo 121 3 vs s.lanes.length (sessCells s.lanes us)
  keys : wr.ownsRow lo 87 4 vk s.keys.length (keyCells s.keys)
  wait : ∀ (j : Nat) (l : Ln) (u : Value), k ≤ j → s.lanes[j]? = some l → us[j]? = some u → wr.ownsRow lo 3 1 u l.ws.length l.nums
  c0 : wr.cell? ⟨w.heap.size, 0, none⟩ = some vs
  c1 : wr.cell? ⟨w.heap.size, 1, none⟩ = some vk
  chg : Chg (fun q => q = mb ∨ B q ∨ lo ≤ q) w wr
  slots : Slots mb (fun j => o ≤ j ∧ j < o + 4) w wr
theorem MS.start {w : World} {lo mb o : Nat} {B : Nat → Prop} {r : Nat → Value} {L : Nat → List Value} {vs vk : Value} {s : St} {us : List Value} (hB : Book w mb o B r L) (hs : StateOf w lo vs vk s us) (hBl : ∀ g, B g → g < lo) (hlo : lo ≤ w.heap.size) : MS w lo mb o B L vs vk s us 0 (w.alloc (.cells #[vs, vk] 46)) B r L := by
  have c : Chg (fun _ => False) w (w.alloc (.cells #[vs, vk] 46)) := (Chg.refl _ w).alloc _
  refine ⟨hB.chg c (fun _ f => f.elim), by omega, fun _ _ _ => rfl, fun g hg => ⟨.inl hg, ?_⟩, c.row' hs.sess (fun _ _ => id), c.row' hs.keys (fun _ _ => id), fun j l u _ hl hu => c.row' (hs.wait j l u hl hu) (fun _ _ => id), World.cell?_alloc_at _ _ _ _ rfl, World.cell?_alloc_at _ _ _ _ rfl, c.mono (fun _ h => h.elim), Slots.of_chg _ c hB.lt id⟩
  have hg' := hBl g hg
  rintro (e | e | e | ⟨j, u, _, hu, e⟩)
  · omega
  · have := (hs.sess.lt g e).1; omega
  · have := (hs.keys.lt g e).1; omega
  · have hj : j < s.lanes.length := by rw [← hs.len]; exact (List.getElem?_eq_some_iff.1 hu).1
    have := ((hs.wait j _ u (List.getElem?_eq_getElem hj) hu).lt g e).1
    omega
theorem MS.step {w wr w' : World} {lo mb o : Nat} {B B' : Nat → Prop} {r' : Nat → Value} {L L' : Nat → List Value} {vs vk : Value} {s : St} {us : List Value} {k : Nat} (h : MS w lo mb o B L vs vk s us k wr B' r' L') (hs : StateOf w lo vs vk s us) (hlo : lo ≤ w.heap.size) (hBl : ∀ g, B g → g < lo) (hml : mb < lo) {l : Ln} {v v1 v2 v3 vI : Value} (hl : s.lanes[k]? = some l) (hu : us[k]? = some v) (hw : l.ws.length ≤ 900)
    (hc : w'.cell? ⟨mb, o, none⟩ = some vI) (hr : w'.ownsRow 0 36 1 vI ((L' 0).length + 4) (L' 0 ++ [v, v1, v2, v3]))
    (hm : ∀ u, u = v ∨ u = v1 ∨ u = v2 ∨ u = v3 → Mk w' 1 0 (1000000 + (((L' 0).length / 4 : Nat) : Int)) u ∧ Lst wr.heap.size l.ws.length v u)
    (hwh : Wh wr.heap.size (r' 0) vI) (hsl : Slots mb (fun j => j = o) wr w') (cc : Chg (fun q => q = mb ∨ (r' 0).ownBlock = some q ∨ v.ownBlock = some q) wr w') :
    ∃ B2 r2 L2, MS w lo mb o B L vs vk s us (k + 1) w' B2 r2 L2 := by
  have hv0 := hs.wait k l v hl hu
  have hvr := h.wait k l v (Nat.le_refl _) hl hu
  have hYv : ∀ g, v.ownBlock = some g → Yet w.heap.size vs vk us k g := fun g hg => .inr (.inr (.inr ⟨k, v, Nat.le_refl _, hu, hg⟩))
  have hvl : ∀ g, v.ownBlock = some g → lo ≤ g ∧ g < w.heap.size := fun g hg => hv0.lt g hg
  have hv : ∀ g, v.ownBlock = some g → ¬ B' g ∧ g ≠ mb ∧ g < wr.heap.size := fun g hg => ⟨fun hB => (h.old g hB).2 (hYv g hg), by have := (hvl g hg).1; omega, (hvr.lt g hg).2⟩
  have hwr := h.chg.size
  have hnx : ∀ g, Yet w.heap.size vs vk us (k + 1) g → Yet w.heap.size vs vk us k g ∧ v.ownBlock ≠ some g ∧ g < wr.heap.size ∧ g ≠ mb := fun g hg => by
    rcases hg with e | e | e | ⟨j, u, hj, hu', e⟩
    · exact ⟨.inl e, fun e2 => by have := (hvl g e2).2; omega, by rw [e]; exact World.block_lt_of_cell? _ _ h.c0, by omega⟩
    · exact ⟨.inr (.inl e), row_kinds hs.sess hv0 (by decide) g e, (h.sess.lt g e).2, by have := (hs.sess.lt g e).1; omega⟩
    · exact ⟨.inr (.inr (.inl e)), row_kinds hs.keys hv0 (by decide) g e, (h.keys.lt g e).2, by have := (hs.keys.lt g e).1; omega⟩
    · have hj' : j < s.lanes.length := by rw [← hs.len]; exact (List.getElem?_eq_some_iff.1 hu').1
      have hrow := h.wait j _ u (by omega) (List.getElem?_eq_getElem hj') hu'
      exact ⟨.inr (.inr (.inr ⟨j, u, by omega, hu', e⟩)), hs.apart j k u v hu' hu (by omega) g e, (hrow.lt g e).2, by have := (hrow.lt g e).1; omega⟩
  have hfree : ∀ g, Yet w.heap.size vs vk us (k + 1) g → ¬ (g = mb ∨ (r' 0).ownBlock = some g ∨ v.ownBlock = some g) := fun g hg hk => by
    obtain ⟨y1, y2, _, y3⟩ := hnx g hg
    rcases hk with e | e | e
    · exact y3 e
    · exact (h.old g (h.book.rows 0 (by omega) g e)).2 y1
    · exact y2 e
  refine ⟨_, _, _, h.book.step (x := 0) (by omega) (n := l.ws.length) (by omega) hv hc hr hm hwh hsl cc, ?_, fun x hx hx0 => ?_, fun g hg => ?_, cc.row' h.sess (fun g hg => hfree g (.inr (.inl hg))), cc.row' h.keys (fun g hg => hfree g (.inr (.inr (.inl hg)))), fun j l' u hj hl' hu' => cc.row' (h.wait j l' u (by omega) hl' hu') (fun g hg => hfree g (.inr (.inr (.inr ⟨j, u, hj, hu', hg⟩)))), cc.cellAt h.c0 (hfree _ (.inl rfl)), cc.cellAt h.c1 (hfree _ (.inl rfl)), ?_, ?_⟩
  · rw [putAt_at]; have := h.len0; simp; omega
  · rw [putAt_ne _ _ hx0]; exact h.len x hx hx0
  · rcases hg with e | e | e
    · exact ⟨(h.old g e).1, fun y => (h.old g e).2 (hnx g y).1⟩
    · exact ⟨.inr (hvl g e).1, fun y => (hnx g y).2.1 e⟩
    · exact ⟨.inr (by omega), fun y => by have := (hnx g y).2.2.1; omega⟩
  · refine h.chg.trans cc (fun q hq e => ?_)
    rcases e with e | e | e
    · exact .inl e
    · exact .inr (h.old q (h.book.rows 0 (by omega) q e)).1
    · exact .inr (.inr (hvl q e).1)
  · exact h.slots.trans hsl (fun j hj => by omega)
end Go.Proofs.YthedkdbgfdjlkaaGreatDoor

namespace Go.Proofs.YthedkdbgfdjlkaaGreatDoor
set_option linter.unusedVariables false
set_option linter.unusedSimpArgs false
open Go.RowKit Go.Lib
def Inks (w : World) (lo mb o : Nat) (B : Nat → Prop) (L : Nat → List Value) (w' : World) : Prop :=
  ∃ B' r' L', Book w' mb o B' r' L' ∧ (∀ x, x < 4 → (L' x).length ≤ (L x).length + 16) ∧ (∀ g, B' g → B g ∨ lo ≤ g) ∧ Chg (fun q => q = mb ∨ B q ∨ lo ≤ q) w w' ∧ Slots mb (fun j => o ≤ j ∧ j < o + 4) w w'
structure MT (w : World) (lo mb o : Nat) (B : Nat → Prop) (L : Nat → List Value) (vk : Value) (s : St) (wr : World) (B' : Nat → Prop) (r' : Nat → Value) (L' : Nat → List Value) : Prop where
  book : Book wr mb o B' r' L'
  len : ∀ x, x < 4 → (L' x).length ≤ (L x).length + 16
  len2 : (L' 2).length = (L 2).length
  old : ∀ g, B' g → (B g ∨ lo ≤ g) ∧ g ≠ w.heap.size ∧ vk.ownBlock ≠ some g
  keys : wr.ownsRow lo 87 4 vk s.keys.length (keyCells s.keys)
  c1 : wr.cell? ⟨w.heap.size, 1, none⟩ = some vk
  chg : Chg (fun q => q = mb ∨ B q ∨ lo ≤ q) w wr
  slots : Slots mb (fun j => o ≤ j ∧ j < o + 4) w wr
theorem MS.sess' {w wr W0 w' : World} {lo mb o : Nat} {B B' : Nat → Prop} {r' : Nat → Value} {L L' : Nat → List Value} {vs vk : Value} {s : St} {us : List Value} (h : MS w lo mb o B L vs vk s us s.lanes.length wr B' r' L') (hs : StateOf w lo vs vk s us) (hlo : lo ≤ w.heap.size) (hml : mb < lo) (hl4 : s.lanes.length ≤ 4) {v1 v2 v3 vF : Value} (c0 : Chg (fun _ => False) wr W0)
    (hb : Book w' mb o (fun g => B' g ∨ vs.ownBlock = some g ∨ W0.heap.size ≤ g ∧ g < w'.heap.size) (putAt r' 1 vF) (putAt L' 1 (L' 1 ++ [vs, v1, v2, v3])))
    (cc : Chg (fun k => k = mb ∨ (r' 1).ownBlock = some k ∨ vs.ownBlock = some k) W0 w') (hsl : Slots mb (fun j => j = o + 1) W0 w') :
    ∃ B2 r2 L2, MT w lo mb o B L vk s w' B2 r2 L2 := by
  have hz := c0.size
  have hwr := h.chg.size
  have hne : ∀ g, g = w.heap.size ∨ vk.ownBlock = some g → ¬ (g = mb ∨ (r' 1).ownBlock = some g ∨ vs.ownBlock = some g) := fun g hg hk => by
    have hy : Yet w.heap.size vs vk us s.lanes.length g := by
      rcases hg with e | e
      · exact .inl e
      · exact .inr (.inr (.inl e))
    rcases hk with e | e | e
    · rcases hg with e2 | e2
      · omega
      · have := (hs.keys.lt g e2).1; omega
    · exact (h.old g (h.book.rows 1 (by omega) g e)).2 hy
    · rcases hg with e2 | e2
      · have := (hs.sess.lt g e).2; omega
      · exact row_kinds hs.keys hs.sess (by decide) g e2 e
  have hsw : w.heap.size < wr.heap.size := World.block_lt_of_cell? _ _ h.c0
  refine ⟨_, _, _, hb, fun x hx => ?_, ?_, fun g hg => ?_, cc.row' (c0.row' h.keys (fun _ _ => id)) (fun g hg => hne g (.inr hg)), cc.cellAt (c0.cellAt h.c1 id) (hne _ (.inl rfl)), ?_, ?_⟩
  · by_cases e : x = 1
    · subst e; rw [putAt_at]; have := h.len 1 (by omega) (by omega); simp; omega
    · rw [putAt_ne _ _ e]
      by_cases e0 : x = 0
      · subst e0; have := h.len0; omega
      · have := h.len x hx e0; omega
  · rw [putAt_ne _ _ (by omega)]; exact h.len 2 (by omega) (by omega)
  · rcases hg with e | e | e
    · exact ⟨(h.old g e).1, fun e2 => (h.old g e).2 (.inl e2), fun e2 => (h.old g e).2 (.inr (.inr (.inl e2)))⟩
    · exact ⟨.inr (hs.sess.lt g e).1, fun e2 => hne g (.inl e2) (.inr (.inr e)), fun e2 => hne g (.inr e2) (.inr (.inr e))⟩
    · exact ⟨.inr (by omega), by omega, fun e2 => by have := (hs.keys.lt g e2).2; omega⟩
  · refine (h.chg.trans c0 (fun _ _ f => f.elim)).trans cc (fun q hq e => ?_)
    rcases e with e | e | e
    · exact .inl e
    · exact .inr (h.old q (h.book.rows 1 (by omega) q e)).1
    · exact .inr (.inr (hs.sess.lt q e).1)
  · exact (h.slots.trans (Slots.of_chg (fun j => j = o + 1) c0 h.book.lt id) (fun j hj => by omega)).trans hsl (fun j hj => by omega)
theorem MT.fin {w wr W0 w' : World} {lo mb o : Nat} {B B' : Nat → Prop} {r' : Nat → Value} {L L' : Nat → List Value} {vk : Value} {s : St} (h : MT w lo mb o B L vk s wr B' r' L') (hk : w.ownsRow lo 87 4 vk s.keys.length (keyCells s.keys)) (hlo : lo ≤ w.heap.size) {v1 v2 v3 vF : Value} (c0 : Chg (fun _ => False) wr W0)
    (hb : Book w' mb o (fun g => B' g ∨ vk.ownBlock = some g ∨ W0.heap.size ≤ g ∧ g < w'.heap.size) (putAt r' 2 vF) (putAt L' 2 (L' 2 ++ [vk, v1, v2, v3])))
    (cc : Chg (fun k => k = mb ∨ (r' 2).ownBlock = some k ∨ vk.ownBlock = some k) W0 w') (hsl : Slots mb (fun j => j = o + 2) W0 w') : Inks w lo mb o B L w' := by
  have hz := c0.size
  have hwr := h.chg.size
  refine ⟨_, _, _, hb, fun x hx => ?_, fun g hg => ?_, ?_, ?_⟩
  · by_cases e : x = 2
    · subst e; rw [putAt_at]; have := h.len2; simp; omega
    · rw [putAt_ne _ _ e]; exact h.len x hx
  · rcases hg with e | e | e
    · exact (h.old g e).1
    · exact .inr (hk.lt g e).1
    · exact .inr (by omega)
  · refine (h.chg.trans c0 (fun _ _ f => f.elim)).trans cc (fun q hq e => ?_)
    rcases e with e | e | e
    · exact .inl e
    · exact .inr (h.old q (h.book.rows 2 (by omega) q e)).1
    · exact .inr (.inr (hk.lt q e).1)
  · exact (h.slots.trans (Slots.of_chg (fun j => j = o + 2) c0 h.book.lt id) (fun j hj => by omega)).trans hsl (fun j hj => by omega)
theorem fill3 {w : World} {lo : Nat} {e : TypeId} {g n cap k : Nat} {a b c : Value} {xs : List Value} (h : w.ownsRow lo e 3 (.slice (some ⟨g, 0, none⟩) n cap) n (reps [a, b, c] k ++ xs.drop (k * 3))) (hk : k < n) :
    (∃ u, w.cell? ⟨g, k * 3, none⟩ = some u) ∧ (∃ u, w.cell? ⟨g, k * 3 + 1, none⟩ = some u) ∧ (∃ u, w.cell? ⟨g, k * 3 + 2, none⟩ = some u) ∧
      (((w.setCell ⟨g, k * 3, none⟩ a).setCell ⟨g, k * 3 + 1, none⟩ b).setCell ⟨g, k * 3 + 2, none⟩ c).ownsRow lo e 3 (.slice (some ⟨g, 0, none⟩) n cap) n (reps [a, b, c] (k + 1) ++ xs.drop ((k + 1) * 3)) := by
  have hl := h.1
  have hrl : (reps [a, b, c] k).length = k * 3 := reps_len _ _
  rw [List.length_append, hrl, List.length_drop] at hl
  have hge : (k + 1) * 3 ≤ n * 3 := Nat.mul_le_mul_right _ hk
  have hcell : ∀ j u, (reps [a, b, c] k ++ xs.drop (k * 3))[j]? = some u → w.cell? ⟨g, j, none⟩ = some u := fun j u hu => row_cell h hu
  have hsome : ∀ j, j < 3 → ∃ u, w.cell? ⟨g, k * 3 + j, none⟩ = some u := fun j hj => by
    have : k * 3 + j < (reps [a, b, c] k ++ xs.drop (k * 3)).length := by rw [List.length_append, hrl, List.length_drop]; omega
    exact ⟨_, hcell _ _ (List.getElem?_eq_getElem this)⟩
  refine ⟨hsome 0 (by omega), hsome 1 (by omega), hsome 2 (by omega), ?_⟩
  have hst := (((h.stored (k * 3) a).1.stored (k * 3 + 1) b).1.stored (k * 3 + 2) c).1
  have e1 : (((reps [a, b, c] k ++ xs.drop (k * 3)).set (k * 3) a).set (k * 3 + 1) b).set (k * 3 + 2) c = reps [a, b, c] (k + 1) ++ xs.drop ((k + 1) * 3) := by
    rw [List.set_append_right _ _ (by omega), List.set_append_right _ _ (by omega), List.set_append_right _ _ (by omega), hrl]
    have e0 : (k + 1) * 3 = k * 3 + 3 := by omega
    rw [e0, ← List.drop_drop]
    match hd : xs.drop (k * 3) with
    | [] => rw [← List.length_drop, hd] at hl; simp at hl; omega
    | [x0] => rw [← List.length_drop, hd] at hl; simp at hl; omega
    | [x0, x1] => rw [← List.length_drop, hd] at hl; simp at hl; omega
    | x0 :: x1 :: x2 :: rest => simp [reps]
  rw [e1] at hst
  exact hst
theorem fill4 {w : World} {lo : Nat} {e : TypeId} {g n cap k : Nat} {a b c d : Value} {xs : List Value} (h : w.ownsRow lo e 4 (.slice (some ⟨g, 0, none⟩) n cap) n (reps [a, b, c, d] k ++ xs.drop (k * 4))) (hk : k < n) :
    (∃ u, w.cell? ⟨g, k * 4, none⟩ = some u) ∧ (∃ u, w.cell? ⟨g, k * 4 + 1, none⟩ = some u) ∧ (∃ u, w.cell? ⟨g, k * 4 + 2, none⟩ = some u) ∧ (∃ u, w.cell? ⟨g, k * 4 + 3, none⟩ = some u) ∧
      ((((w.setCell ⟨g, k * 4, none⟩ a).setCell ⟨g, k * 4 + 1, none⟩ b).setCell ⟨g, k * 4 + 2, none⟩ c).setCell ⟨g, k * 4 + 3, none⟩ d).ownsRow lo e 4 (.slice (some ⟨g, 0, none⟩) n cap) n (reps [a, b, c, d] (k + 1) ++ xs.drop ((k + 1) * 4)) := by
  have hl := h.1
  have hrl : (reps [a, b, c, d] k).length = k * 4 := reps_len _ _
  rw [List.length_append, hrl, List.length_drop] at hl
  have hge : (k + 1) * 4 ≤ n * 4 := Nat.mul_le_mul_right _ hk
  have hcell : ∀ j u, (reps [a, b, c, d] k ++ xs.drop (k * 4))[j]? = some u → w.cell? ⟨g, j, none⟩ = some u := fun j u hu => row_cell h hu
  have hsome : ∀ j, j < 4 → ∃ u, w.cell? ⟨g, k * 4 + j, none⟩ = some u := fun j hj => by
    have : k * 4 + j < (reps [a, b, c, d] k ++ xs.drop (k * 4)).length := by rw [List.length_append, hrl, List.length_drop]; omega
    exact ⟨_, hcell _ _ (List.getElem?_eq_getElem this)⟩
  refine ⟨hsome 0 (by omega), hsome 1 (by omega), hsome 2 (by omega), hsome 3 (by omega), ?_⟩
  have hst := ((((h.stored (k * 4) a).1.stored (k * 4 + 1) b).1.stored (k * 4 + 2) c).1.stored (k * 4 + 3) d).1
  have e1 : ((((reps [a, b, c, d] k ++ xs.drop (k * 4)).set (k * 4) a).set (k * 4 + 1) b).set (k * 4 + 2) c).set (k * 4 + 3) d = reps [a, b, c, d] (k + 1) ++ xs.drop ((k + 1) * 4) := by
    rw [List.set_append_right _ _ (by omega), List.set_append_right _ _ (by omega), List.set_append_right _ _ (by omega), List.set_append_right _ _ (by omega), hrl]
    have e0 : (k + 1) * 4 = k * 4 + 4 := by omega
    rw [e0, ← List.drop_drop]
    match hd : xs.drop (k * 4) with
    | [] => rw [← List.length_drop, hd] at hl; simp at hl; omega
    | [x0] => rw [← List.length_drop, hd] at hl; simp at hl; omega
    | [x0, x1] => rw [← List.length_drop, hd] at hl; simp at hl; omega
    | [x0, x1, x2] => rw [← List.length_drop, hd] at hl; simp at hl; omega
    | x0 :: x1 :: x2 :: x3 :: rest => simp [reps]
  rw [e1] at hst
  exact hst
end Go.Proofs.YthedkdbgfdjlkaaGreatDoor

namespace Go.Proofs.YthedkdbgfdjlkaaGreatDoor
set_option linter.unusedVariables false
set_option linter.unusedSimpArgs false
open Go.RowKit Go.Lib
def updF {α : Type} (f : Nat → α) (i : Nat) (x : α) : Nat → α := fun j => if j = i then x else f j
theorem updF_same {α : Type} (f : Nat → α) (i : Nat) (x : α) : updF f i x i = x := by simp [updF]
theorem updF_ne {α : Type} (f : Nat → α) {i j : Nat} (x : α) (h : j ≠ i) : updF f i x j = f j := by simp [updF, h]
def teR (E : Nat → Int) (i : Nat) (x : Rec) : Int := if E i < x.epoch then x.epoch else E i
def tbR (E B : Nat → Int) (i : Nat) (x : Rec) : Int := if E i < x.epoch then 0 else B i
def tqR (E : Nat → Int) (Q : Nat → List Rec) (i : Nat) (x : Rec) : List Rec := if E i < x.epoch then [] else Q i
def accR2 (E B : Nat → Int) (Q : Nat → List Rec) (T : List Rec) (i : Nat) (x : Rec) : (Int × Int) × Option (Int × Int × List Rec × List Rec) :=
  if x.number < 0 ∨ tbR E B i x + 4 ≤ x.number then ((0, 5), none)
  else if x.number < tbR E B i x ∨ 0 ≤ idxR x.number (tqR E Q i x) 0 then ((tbR E B i x, 0), none)
  else if fullR T (updF Q i (tqR E Q i x)) x.key ≠ 0 then ((0, fullR T (updF Q i (tqR E Q i x)) x.key), none)
  else (((drainR ((tqR E Q i x).length + 2) (tbR E B i x) (tqR E Q i x ++ [x]) T).1, 0), some (teR E i x, drainR ((tqR E Q i x).length + 2) (tbR E B i x) (tqR E Q i x ++ [x]) T))
def accX (E B : Nat → Int) (Q : Nat → List Rec) (T : List Rec) (c : Bool) (x : Rec) : (Int × Int) × Option (Int × Int × List Rec × List Rec) :=
  if c = true then ((0, 1), none)
  else if x.session < 0 ∨ 4 ≤ x.session then ((0, 2), none)
  else if okKey x.key = false ∨ x.value < 0 ∨ 4294967295 < x.value then ((0, 3), none)
  else if x.epoch < E x.session.toNat then ((0, 4), none)
  else accR2 E B Q T x.session.toNat x
def RaccPost (w w' : World) (lo b i : Nat) (E B : Nat → Int) (vh : Value) (Q : Nat → List Rec) (Hs : List Hd) : Option (Int × Int × List Rec × List Rec) → Prop
  | none => Chg (fun _ => False) w w'
  | some r => ∃ V' vt', RefAt w' lo b (updF E i r.1) (updF B i r.2.1) V' vt' vh (updF Q i r.2.2.1) r.2.2.2 Hs false ∧ (∀ k, ((∃ j, j < 4 ∧ (V' j).ownBlock = some k) ∨ vt'.ownBlock = some k) → w.heap.size ≤ k) ∧ Chg (fun k => k = b) w w'
theorem RefAt.keep {w w' : World} {lo b : Nat} {E B : Nat → Int} {V : Nat → Value} {vt vh : Value} {Q : Nat → List Rec} {T : List Rec} {Hs : List Hd} {c : Bool} (h : RefAt w lo b E B V vt vh Q T Hs c) (hc : Chg (fun _ => False) w w') : RefAt w' lo b E B V vt vh Q T Hs c :=
  { h with
    ep := fun j hj => hc.cellAt (h.ep j hj) id
    ba := fun j hj => hc.cellAt (h.ba j hj) id
    qu := fun j hj => hc.cellAt (h.qu j hj) id
    tk := hc.cellAt h.tk id
    hd := hc.cellAt h.hd id
    cl := hc.cellAt h.cl id
    fz := fun j => (World.frozen?_of_block (w := w) (hc.block b (World.block_lt_of_cell? _ _ h.tk) id)).trans (h.fz j)
    rows := fun j hj => hc.row' (h.rows j hj) (fun _ _ h => h)
    taken := hc.row' h.taken (fun _ _ h => h)
    held := hc.row' h.held (fun _ _ h => h)
    low := Nat.le_trans h.low hc.size }
set_option maxRecDepth 100000 in
set_option maxHeartbeats 4000000 in
theorem racc_early {w : World} {lo b : Nat} {E B : Nat → Int} {V : Nat → Value} {vt vh : Value} {Q : Nat → List Rec} {T : List Rec} {Hs : List Hd} {c : Bool} (h : RefAt w lo b E B V vt vh Q T Hs c) (x : Rec) (hx : x.fits)
    (hbad : c = true ∨ (x.session < 0 ∨ 4 ≤ x.session) ∨ (okKey x.key = false ∨ x.value < 0 ∨ 4294967295 < x.value) ∨ x.epoch < E x.session.toNat) :
    Calls Tryz.prog 46 #[.pointer (some ⟨b, 0, none⟩), x.value'] w fun e w' => e = .returned (.tuple #[.int .i64 (accX E B Q T c x).1.1, .int .i64 (accX E B Q T c x).1.2]) ∧ (accX E B Q T c x).2 = none ∧ Chg (fun _ => False) w w' := by
  obtain ⟨W0, hW0⟩ : ∃ W0, W0 = w.alloc (Obj.cells #[.int .i64 x.session, .int .i64 x.epoch, .int .i64 x.number, .string x.key, .int .i64 x.value] 53) := ⟨_, rfl⟩
  have c0 : Chg (fun _ => False) w W0 := by rw [hW0]; exact (Chg.refl _ w).alloc _
  have x0 : W0.cell? ⟨w.heap.size, 0, none⟩ = some (.int .i64 x.session) := by rw [hW0]; exact World.cell?_alloc_at _ _ _ _ rfl
  have x1 : W0.cell? ⟨w.heap.size, 1, none⟩ = some (.int .i64 x.epoch) := by rw [hW0]; exact World.cell?_alloc_at _ _ _ _ rfl
  have x3 : W0.cell? ⟨w.heap.size, 3, none⟩ = some (.string x.key) := by rw [hW0]; exact World.cell?_alloc_at _ _ _ _ rfl
  have x4 : W0.cell? ⟨w.heap.size, 4, none⟩ = some (.int .i64 x.value) := by rw [hW0]; exact World.cell?_alloc_at _ _ _ _ rfl
  have hcl := c0.cellAt h.cl id
  have hik := risKey_any x.key W0 hx.key
  obtain ⟨f1, f2, f3, f4, f5⟩ := hx
  unfold inInt at f1 f2 f3 f4
  unfold Rec.value'
  cases c with
  | true =>
    have e : accX E B Q T true x = ((0, 1), none) := by unfold accX; rw [if_pos rfl]
    rw [e]
    clear hbad e
    go_enter Tryz.func46, Tryz.ntmps46
    go_wp2_with fail
    rw [← hW0]
    refine hik.mono ?_
    rintro _ w1 ⟨rfl, ew⟩
    rw [ew]
    clear ew w1 hW0
    go_wp2
    go_ret2
    exact ⟨rfl, trivial, c0⟩
  | false =>
    by_cases hs : x.session < 0 ∨ 4 ≤ x.session
    · have e : accX E B Q T false x = ((0, 2), none) := by unfold accX; rw [if_neg (by simp), if_pos hs]
      rw [e]
      clear hbad e
      by_cases hs0 : x.session < 0
      · clear hs
        go_enter Tryz.func46, Tryz.ntmps46
        go_wp2_with fail
        rw [← hW0]
        refine hik.mono ?_
        rintro _ w1 ⟨rfl, ew⟩
        rw [ew]
        clear ew w1 hW0
        go_wp2
        go_ret2
        exact ⟨rfl, trivial, c0⟩
      · have hs4 : 4 ≤ x.session := hs.resolve_left hs0
        clear hs
        go_enter Tryz.func46, Tryz.ntmps46
        go_wp2_with fail
        rw [← hW0]
        refine hik.mono ?_
        rintro _ w1 ⟨rfl, ew⟩
        rw [ew]
        clear ew w1 hW0
        go_wp2
        go_ret2
        exact ⟨rfl, trivial, c0⟩
    · have hs0 : ¬ x.session < 0 := fun h => hs (.inl h)
      have hs4 : ¬ 4 ≤ x.session := fun h => hs (.inr h)
      by_cases hk : okKey x.key = false ∨ x.value < 0 ∨ 4294967295 < x.value
      · have e : accX E B Q T false x = ((0, 3), none) := by unfold accX; rw [if_neg (by simp), if_neg hs, if_pos hk]
        rw [e]
        clear hbad e hs
        cases hok : okKey x.key with
        | false =>
          rw [hok] at hik
          clear hk hok
          go_enter Tryz.func46, Tryz.ntmps46
          go_wp2_with fail
          rw [← hW0]
          refine hik.mono ?_
          rintro _ w1 ⟨rfl, ew⟩
          rw [ew]
          clear ew w1 hW0
          go_wp2
          go_ret2
          exact ⟨rfl, trivial, c0⟩
        | true =>
          rw [hok] at hik hk
          by_cases hv0 : x.value < 0
          · clear hk hok
            go_enter Tryz.func46, Tryz.ntmps46
            go_wp2_with fail
            rw [← hW0]
            refine hik.mono ?_
            rintro _ w1 ⟨rfl, ew⟩
            rw [ew]
            clear ew w1 hW0
            go_wp2
            go_ret2
            exact ⟨rfl, trivial, c0⟩
          · have hv1 : 4294967295 < x.value := by
              rcases hk with h | h | h
              · cases h
              · exact absurd h hv0
              · exact h
            clear hk hok
            go_enter Tryz.func46, Tryz.ntmps46
            go_wp2_with fail
            rw [← hW0]
            refine hik.mono ?_
            rintro _ w1 ⟨rfl, ew⟩
            rw [ew]
            clear ew w1 hW0
            go_wp2
            go_ret2
            exact ⟨rfl, trivial, c0⟩
      · have hok : okKey x.key = true := by
          cases hh : okKey x.key
          · exact absurd (.inl hh) hk
          · rfl
        have hv0 : ¬ x.value < 0 := fun h => hk (.inr (.inl h))
        have hv1 : ¬ 4294967295 < x.value := fun h => hk (.inr (.inr h))
        have hep : x.epoch < E x.session.toNat := by
          rcases hbad with h | h | h | h
          · cases h
          · exact absurd h hs
          · exact absurd h hk
          · exact h
        have e : accX E B Q T false x = ((0, 4), none) := by unfold accX; rw [if_neg (by simp), if_neg hs, if_neg hk, if_pos hep]
        rw [e]
        rw [hok] at hik
        obtain ⟨i, hi⟩ : ∃ i : Nat, x.session = i := ⟨x.session.toNat, by omega⟩
        have hi4 : i < 4 := by omega
        have hi4' : (i : Int) < 4 := by omega
        rw [show x.session.toNat = i by omega] at hep
        have xe := c0.cellAt (h.ep i hi4) id
        rw [hi] at hW0 x0 hs0 hs4 ⊢
        clear hbad e hs hk hok hi
        go_enter Tryz.func46, Tryz.ntmps46
        go_wp2_with fail
        rw [← hW0]
        refine hik.mono ?_
        rintro _ w1 ⟨rfl, ew⟩
        rw [ew]
        clear ew w1 hW0
        go_wp2_with fail
        go_quiet (fail)
        go_wp2_with fail
        go_ret2
        exact ⟨rfl, trivial, c0.trans (((Quiet.refl _).drewN _).chg _) (fun _ _ h => h)⟩
end Go.Proofs.YthedkdbgfdjlkaaGreatDoor

namespace Go.Proofs.YthedkdbgfdjlkaaGreatDoor
set_option linter.unusedVariables false
set_option linter.unusedSimpArgs false
open Go.RowKit Go.Lib
theorem Tryz.infoPr : (Tryz.prog.info? 63).map (fun i => (i.zero, i.size, i.bytes)) = some (some (.agg #[.string { data := #[] }, .int .i64 0, .int .i64 0]), 3, 32) := by kernel_rfl
theorem putsOf_app : ∀ (a b : List Ky), putsOf (a ++ b) = putsOf a ++ putsOf b
  | [], b => rfl
  | k :: r, b => by
    have := putsOf_app r b
    simp only [List.cons_append, putsOf, this]
    split <;> rfl
theorem putsOf_le : ∀ (ks : List Ky), (putsOf ks).length ≤ ks.length
  | [] => by simp [putsOf]
  | x :: r => by
    have := putsOf_le r
    unfold putsOf
    split <;> simp <;> omega
set_option maxHeartbeats 400000 in
theorem rputs_closed {w : World} {lo b : Nat} {E B : Nat → Int} {V : Nat → Value} {vt vh : Value} {Q : Nat → List Rec} {T : List Rec} {Hs : List Hd} (h : RefAt w lo b E B V vt vh Q T Hs true) :
    Calls Tryz.prog 52 #[.pointer (some ⟨b, 0, none⟩)] w fun e w' => e = .returned (.tuple #[.slice none 0 0, .int .i64 1]) ∧ Chg (fun _ => False) w w' := by
  have hcl := h.cl
  go_enter Tryz.func52, Tryz.ntmps52
  go_wp2
  go_ret2
  exact ⟨rfl, Chg.refl _ _⟩
set_option maxRecDepth 100000 in
set_option maxHeartbeats 4000000 in
theorem rputs_open {w : World} {lo b : Nat} {E B : Nat → Int} {V : Nat → Value} {vt vh : Value} {Q : Nat → List Rec} {T : List Rec} {Hs : List Hd} (h : RefAt w lo b E B V vt vh Q T Hs false) (hT : T.length ≤ 1000) (hH : Hs.length ≤ 1000000000)
    (hv : ∀ x ∈ T, (0 ≤ x.value ∧ x.value ≤ 4294967295) ∧ okKey x.key = true) (ht : ∀ p ∈ Hs, 0 ≤ p.token ∧ p.token ≤ 1000) :
    Calls Tryz.prog 52 #[.pointer (some ⟨b, 0, none⟩)] w fun e w' => ∃ vp, e = .returned (.tuple #[vp, .int .i64 0]) ∧ w'.ownsRow w.heap.size 63 3 vp (putsOf (keysR T Hs (namesR T []))).length (putCells (putsOf (keysR T Hs (namesR T [])))) ∧ Chg (fun _ => False) w w' := by
  obtain ⟨i0, hi0, hz0, hz1, hz2⟩ := info_parts Tryz.infoPr
  have hcl := h.cl
  have hnm := rnames_any h.tk h.taken hT
  go_enter Tryz.func52, Tryz.ntmps52
  go_wp2_with fail
  refine hnm.mono ?_
  rintro _ w7 ⟨vn, rfl, o7, c7⟩
  clear hnm
  obtain ⟨nl, hnl⟩ : ∃ nl, nl = namesR T [] := ⟨_, rfl⟩
  rw [← hnl] at o7
  have HNL : Hid (nl = namesR T []) := hnl
  have hnll : nl.length ≤ 1000 := by rw [hnl]; have := namesR_len T []; simp at this; omega
  have hnk : ∀ n ∈ nl, ∃ c r, n.data.toList = c :: r := fun n hn => by
    rw [hnl] at hn
    rcases (namesR_mem T [] n).1 hn with h | ⟨x, hx, e⟩
    · simp at h
    · have := (hv x hx).2
      rw [e] at this
      unfold okKey at this
      cases hd : n.data.toList with
      | nil => rw [hd] at this; cases this
      | cons c r => exact ⟨c, r, rfl⟩
  obtain ⟨pn, cn, rfl⟩ := row_any o7
  clear hnl
  go_wp2_with fail
  go_loopw [4, 6, 7] (fun sv si _ wr => ∃ (j : Nat), si = .int .i64 j ∧ j ≤ nl.length ∧ wr.ownsRow w.heap.size 63 3 sv (putsOf (keysR T Hs (nl.take j))).length (putCells (putsOf (keysR T Hs (nl.take j)))) ∧ wr.ownsRow w.heap.size 9 1 (.slice pn nl.length cn) nl.length (strCells nl) ∧ Chg (fun _ => False) w wr) (fun _ si _ _ => nl.length - (intOf si).toNat)
  case atStart => exact ⟨0, rfl, by omega, World.ownsRow_nil _ _ _ _, o7, c7⟩
  case round =>
    clear o7 c7
    obtain ⟨j, rfl, hj, hown, hnn, hc⟩ := hrel
    by_cases hjl : j < nl.length
    · have hjl' : (j : Int) < (nl.length : Int) := by omega
      obtain ⟨nm, hnm⟩ : ∃ nm, nl[j]? = some nm := ⟨_, List.getElem?_eq_getElem hjl⟩
      obtain ⟨gn, cn', hvn, _, _, hcell⟩ := row_pos hnn (by omega)
      simp only [Value.slice.injEq] at hvn
      obtain ⟨rfl, _, rfl⟩ := hvn
      have m0 := hcell _ _ (strCells_at hnm)
      obtain ⟨c, r, hcr⟩ := hnk nm (List.mem_of_getElem? hnm)
      have hky := rkeyX_any hcr (hc.cellAt h.tk id) (hc.row' h.taken (fun _ _ h => h)) (hc.cellAt h.hd id) (hc.row' h.held (fun _ _ h => h)) (by omega) hH (fun x hx => (hv x hx).1) ht
      obtain ⟨kk, hkk⟩ : ∃ kk : Ky, kk = ⟨nm, (tally nm T).1, (tally nm T).2, heldOf nm Hs⟩ := ⟨_, rfl⟩
      have HKK : Hid (putsOf (keysR T Hs (nl.take (j + 1))) = putsOf (keysR T Hs (nl.take j)) ++ (if kk.held < kk.count then [⟨kk.name, kk.count, kk.fold⟩] else [])) := by
        show _ = _
        obtain ⟨hl, e⟩ := List.getElem?_eq_some_iff.1 hnm
        unfold keysR
        rw [List.take_succ_eq_append_getElem hl, e, List.map_append, putsOf_app]
        congr 1
        rw [hkk]
        rfl
      have hky' : Calls Tryz.prog 86 #[.pointer (some ⟨b, 0, none⟩), .string nm] wr fun e w' => e = .returned (.agg #[.string kk.name, .int .i64 kk.count, .int .i64 kk.fold, .int .i64 kk.held]) ∧ Chg (fun _ => False) wr w' := by rw [hkk]; exact hky
      have hpl : (putsOf (keysR T Hs (nl.take j))).length ≤ 1000 := by
        have h1 := putsOf_le (keysR T Hs (nl.take j))
        have h2 : (keysR T Hs (nl.take j)).length ≤ nl.length := by unfold keysR; simp; omega
        omega
      clear hky hkk hcell hcr hnm
      go_wp2_with fail
      refine hky'.mono ?_
      rintro _ w8 ⟨rfl, c8⟩
      clear hky'
      obtain ⟨W9, hW9⟩ : ∃ W9, W9 = w8.alloc (Obj.cells #[.string kk.name, .int .i64 kk.count, .int .i64 kk.fold, .int .i64 kk.held] 87) := ⟨_, rfl⟩
      have c9 : Chg (fun _ => False) wr W9 := c8.trans (by rw [hW9]; exact (Chg.refl _ w8).alloc _) (fun _ _ h => h)
      have hs9 : W9.heap.size = w8.heap.size + 1 := by rw [hW9]; simp
      by_cases hh : kk.held < kk.count
      · have HKK' : Hid (putsOf (keysR T Hs (nl.take (j + 1))) = putsOf (keysR T Hs (nl.take j)) ++ [⟨kk.name, kk.count, kk.fold⟩]) := by show _ = _; rw [HKK.out, if_pos hh]
        obtain ⟨v6, w6, hrun, o6, g6, e6⟩ := run_append_where (P := Tryz.prog) (W9.alloc (Obj.cells #[.string kk.name, .int .i64 kk.count, .int .i64 kk.fold] 63)) w.heap.size 56 56 63 i0 _ 3 32 Tryz.underlying56 hi0 hz0 hz1 hz2 rfl (by decide) _ _ _ ((c9.row' hown (fun _ _ h => h)).alloc _) ⟨W9.heap.size, 0, none⟩ 1 1 (⟨kk.name, kk.count, kk.fold⟩ : Pt).cells rfl (fun j y hj => by rw [add_lit', Nat.zero_add]; rcases j with _ | _ | _ | j <;> simp [Pt.cells] at hj <;> subst hj <;> exact World.cell?_alloc_at _ _ _ _ rfl) (fun y hy => by simp [Pt.cells] at hy; rcases hy with rfl | rfl | rfl <;> rfl) (by unfold maxLen; omega) (by omega) (by have := hc.size; have := c9.size; simp; omega)
        have c6 : Chg (fun g => u4.ownBlock = some g) wr w6 := ((c9.mono (G := fun g => u4.ownBlock = some g) (fun _ h => h.elim)).alloc _).trans (G := fun g => u4.ownBlock = some g) ⟨g6.os, g6.tape, g6.output, g6.size, fun k hk hne => g6.block k hk (fun e => hne e.symm)⟩ (fun _ _ h => h)
        rw [hs9, hW9] at hrun
        clear hW9 hs9
        go_wp2_with (at_builtin; refine Lib.wpList_append_run _ rfl (.tmp 31) (.tmp 39) 56 56 rfl _ _ rfl rfl v6 w6 hrun ?_)
        refine ⟨⟨j + 1, by go_num, by omega, ?_, c6.row' hnn (fun g hg e => row_kinds hnn hown (by decide) g hg e), hc.step c6 (fun k hk => (hown.lt k hk).1)⟩, by simp [intOf]; omega⟩
        rw [HKK'.out, putCells_append]
        simpa [putCells] using o6
      · have HKK' : Hid (putsOf (keysR T Hs (nl.take (j + 1))) = putsOf (keysR T Hs (nl.take j))) := by show _ = _; rw [HKK.out, if_neg hh]; simp
        go_wp2_with fail
        refine ⟨⟨j + 1, by go_num, by omega, ?_, (c8.alloc _).row' hnn (fun _ _ h => h), hc.trans (c8.alloc _) (fun _ _ h => h)⟩, by simp [intOf]; omega⟩
        rw [HKK'.out]
        exact (c8.alloc _).row' hown (fun _ _ h => h)
    · have hjl' : ¬ (j : Int) < (nl.length : Int) := by omega
      rw [List.take_of_length_le (by omega)] at hown
      go_wp2_with fail
      go_ret2
      exact ⟨_, rfl, by rw [← HNL.out]; exact hown, hc⟩
set_option maxHeartbeats 400000 in
theorem rclose_any {w : World} {lo b : Nat} {E B : Nat → Int} {V : Nat → Value} {vt vh : Value} {Q : Nat → List Rec} {T : List Rec} {Hs : List Hd} {c : Bool} (h : RefAt w lo b E B V vt vh Q T Hs c) :
    Calls Tryz.prog 51 #[.pointer (some ⟨b, 0, none⟩)] w fun e w' => e = .returned (.int .i64 (if c then 1 else 0)) ∧ RefAt w' lo b E B V vt vh Q T Hs true ∧ Chg (fun k => k = b) w w' := by
  have hcl := h.cl
  have hfz := h.fz 14
  have c14 : Chg (fun k => k = b) w (w.setCell ⟨b, 14, none⟩ (.bool true)) := (Chg.refl (fun k => k = b) w).setCell (p := ⟨b, 14, none⟩) (fun _ => rfl) _
  have hR : RefAt (w.setCell ⟨b, 14, none⟩ (.bool true)) lo b E B V vt vh Q T Hs true :=
    { h with
      ep := fun j hj => (World.cell?_setCell_other _ _ _ _ (by simp <;> omega)).trans (h.ep j hj)
      ba := fun j hj => (World.cell?_setCell_other _ _ _ _ (by simp <;> omega)).trans (h.ba j hj)
      qu := fun j hj => (World.cell?_setCell_other _ _ _ _ (by simp <;> omega)).trans (h.qu j hj)
      tk := (World.cell?_setCell_other _ _ _ _ (by simp)).trans h.tk
      hd := (World.cell?_setCell_other _ _ _ _ (by simp)).trans h.hd
      cl := World.cell?_setCell_same _ _ _ hcl
      fz := fun j => by rw [World.frozen?_setCell]; exact h.fz j
      rows := fun j hj => c14.row' (h.rows j hj) (fun k hk e => h.own j hj (by rw [← e]; exact hk))
      taken := c14.row' h.taken (fun k hk e => h.ownt (by rw [← e]; exact hk))
      held := c14.row' h.held (fun k hk e => h.ownh (by rw [← e]; exact hk))
      low := Nat.le_trans h.low c14.size }
  have hno : Calls Tryz.prog 56 #[.pointer (some ⟨b, 0, none⟩)] w fun e w' => e = .returned (.int .i64 (if c then 1 else 0)) ∧ w' = w := by
    cases c with
    | true =>
      go_enter Tryz.func56, Tryz.ntmps56
      go_wp2
      go_ret
      exact ⟨rfl, rfl⟩
    | false =>
      go_enter Tryz.func56, Tryz.ntmps56
      go_wp2
      go_ret
      exact ⟨rfl, rfl⟩
  obtain ⟨ec, hec⟩ : ∃ ec : Int, ec = if c then 1 else 0 := ⟨_, rfl⟩
  rw [← hec] at hno ⊢
  clear hec
  go_enter Tryz.func51, Tryz.ntmps51
  go_wp2_with fail
  refine hno.mono ?_
  rintro _ w1 ⟨rfl, ew⟩
  rw [ew]
  clear ew w1 hno
  go_wp2
  go_ret
  exact ⟨rfl, hR, c14⟩
end Go.Proofs.YthedkdbgfdjlkaaGreatDoor

namespace Go.Proofs.YthedkdbgfdjlkaaGreatDoor
set_option linter.unusedVariables false
set_option linter.unusedSimpArgs false
open Go.RowKit Go.Lib
def keyR (T : List Rec) (Hs : List Hd) (key : ByteArray) (ok : Bool) : Ky := if ok then ⟨key, (tally key T).1, (tally key T).2, heldOf key Hs⟩ else ⟨{ data := #[] }, 0, 0, 0⟩
set_option maxHeartbeats 1000000 in
theorem rkey2_any {w : World} {lo b : Nat} {vt vh : Value} {T : List Rec} {Hs : List Hd} {name : ByteArray} (htk : w.cell? ⟨b, 12, none⟩ = some vt) (hrt : w.ownsRow lo 53 5 vt T.length (recCells T)) (hhd : w.cell? ⟨b, 13, none⟩ = some vh) (hrh : w.ownsRow lo 181 2 vh Hs.length (hdCells Hs))
    (hT : T.length ≤ 2000) (hH : Hs.length ≤ 1000000000) (hv : ∀ x ∈ T, 0 ≤ x.value ∧ x.value ≤ 4294967295) (ht : ∀ p ∈ Hs, 0 ≤ p.token ∧ p.token ≤ 1000) :
    Calls Tryz.prog 89 #[.pointer (some ⟨b, 0, none⟩), .string name, .bool (okKey name)] w fun e w' => e = .returned (.agg #[.string (keyR T Hs name (okKey name)).name, .int .i64 (keyR T Hs name (okKey name)).count, .int .i64 (keyR T Hs name (okKey name)).fold, .int .i64 (keyR T Hs name (okKey name)).held]) ∧ Chg (fun _ => False) w w' := by
  obtain ⟨W0, hW0⟩ : ∃ W0, W0 = w.alloc (Obj.cells #[.string { data := #[] }, .int .i64 0, .int .i64 0, .int .i64 0] 87) := ⟨_, rfl⟩
  have c0 : Chg (fun _ => False) w W0 := by rw [hW0]; exact (Chg.refl _ w).alloc _
  have R0 : Blk W0 w.heap.size 4 (kyC { data := #[] } 0 0 0) := by
    rw [hW0]
    refine ⟨fun j hj => ?_, fun j => World.frozen?_alloc_at _ _ _ _ rfl⟩
    rcases (by omega : j = 0 ∨ j = 1 ∨ j = 2 ∨ j = 3) with rfl | rfl | rfl | rfl <;> exact World.cell?_alloc_at _ _ _ _ rfl
  cases hok : okKey name with
  | false =>
    have e : keyR T Hs name false = ⟨{ data := #[] }, 0, 0, 0⟩ := rfl
    rw [e]
    clear hok e
    go_enter Tryz.func89, Tryz.ntmps89
    go_wp2_with fail
    refine bodyPost_ret (v := .agg #[.string { data := #[] }, .int .i64 0, .int .i64 0, .int .i64 0]) ?_ rfl ⟨rfl, ?_⟩
    · simp [results, Tryz.results89, go_sem]
    · first
        | exact (Chg.refl _ w).alloc _
        | exact ((Chg.refl (fun _ => False) w).alloc _).step (((((Chg.refl (fun k => k = w.heap.size) _).setCell (p := ⟨w.heap.size, 0, none⟩) (fun _ => rfl) _).setCell (p := ⟨w.heap.size, 1, none⟩) (fun _ => rfl) _).setCell (p := ⟨w.heap.size, 2, none⟩) (fun _ => rfl) _).setCell (p := ⟨w.heap.size, 3, none⟩) (fun _ => rfl) _) (fun k hk => by omega)
  | true =>
    obtain ⟨c, r, hcr⟩ : ∃ c r, name.data.toList = c :: r := by
      unfold okKey at hok
      cases hd : name.data.toList with
      | nil => rw [hd] at hok; cases hok
      | cons c r => exact ⟨c, r, rfl⟩
    obtain ⟨kk, hkk⟩ : ∃ kk : Ky, kk = keyR T Hs name true := ⟨_, rfl⟩
    have hky := rkeyX_any hcr (c0.cellAt htk id) (c0.row' hrt (fun _ _ h => h)) (c0.cellAt hhd id) (c0.row' hrh (fun _ _ h => h)) hT hH hv ht
    have hky' : Calls Tryz.prog 86 #[.pointer (some ⟨b, 0, none⟩), .string name] W0 fun e w' => e = .returned (.agg #[.string kk.name, .int .i64 kk.count, .int .i64 kk.fold, .int .i64 kk.held]) ∧ Chg (fun _ => False) W0 w' := by rw [hkk]; exact hky
    rw [← hkk]
    clear hky hkk hcr hok
    go_enter Tryz.func89, Tryz.ntmps89
    go_wp2_with fail
    rw [← hW0]
    refine hky'.mono ?_
    rintro _ w1 ⟨rfl, c1⟩
    clear hky' hW0
    have R1 := R0.chg c1 (by omega) id
    have r0 : w1.cell? ⟨w.heap.size, 0, none⟩ = some (.string { data := #[] }) := R1.cell 0 (by omega)
    have r1 : w1.cell? ⟨w.heap.size, 1, none⟩ = some (.int .i64 0) := R1.cell 1 (by omega)
    have r2 : w1.cell? ⟨w.heap.size, 2, none⟩ = some (.int .i64 0) := R1.cell 2 (by omega)
    have r3 : w1.cell? ⟨w.heap.size, 3, none⟩ = some (.int .i64 0) := R1.cell 3 (by omega)
    have g0 := R1.fz 0
    have g1 := R1.fz 1
    have g2 := R1.fz 2
    have g3 := R1.fz 3
    go_wp2_with fail
    have cS : Chg (fun k => k = w.heap.size) w1 ((((w1.setCell ⟨w.heap.size, 0, none⟩ (.string kk.name)).setCell ⟨w.heap.size, 1, none⟩ (.int .i64 kk.count)).setCell ⟨w.heap.size, 2, none⟩ (.int .i64 kk.fold)).setCell ⟨w.heap.size, 3, none⟩ (.int .i64 kk.held)) := ((((Chg.refl (fun k => k = w.heap.size) w1).setCell (p := ⟨w.heap.size, 0, none⟩) (fun _ => rfl) _).setCell (p := ⟨w.heap.size, 1, none⟩) (fun _ => rfl) _).setCell (p := ⟨w.heap.size, 2, none⟩) (fun _ => rfl) _).setCell (p := ⟨w.heap.size, 3, none⟩) (fun _ => rfl) _
    refine bodyPost_ret (v := .agg #[.string kk.name, .int .i64 kk.count, .int .i64 kk.fold, .int .i64 kk.held]) ?_ rfl ⟨rfl, (c0.trans c1 (fun _ _ h => h)).step cS (fun k hk => by omega)⟩
    simp [results, Tryz.results89, go_sem, r0, r1, r2, r3]
def ansX (T : List Rec) (c : Bool) (key : ByteArray) (n : Int) : Int × Option Hd :=
  if c = true then (1, none) else if okKey key = false then (3, none) else if (tally key T).1 = 0 then (8, none) else if n < 0 ∨ (tally key T).1 < n then (9, none) else (0, some ⟨key, n⟩)
def RansPost (w w' : World) (lo b : Nat) (E B : Nat → Int) (V : Nat → Value) (vt vh : Value) (Q : Nat → List Rec) (T : List Rec) (Hs : List Hd) : Option Hd → Prop
  | none => Chg (fun _ => False) w w'
  | some p => ∃ vh', RefAt w' lo b E B V vt vh' Q T (Hs ++ [p]) false ∧ Wh w.heap.size vh vh' ∧ Chg (fun k => k = b ∨ vh.ownBlock = some k) w w'
theorem hdCells_append : ∀ a b : List Hd, hdCells (a ++ b) = hdCells a ++ hdCells b
  | [], b => rfl
  | x :: r, b => by simp [hdCells, hdCells_append r b]
theorem RefAt.hold {w w1 : World} {lo b : Nat} {E B : Nat → Int} {V : Nat → Value} {vt vh vh' : Value} {Q : Nat → List Rec} {T : List Rec} {Hs : List Hd} {p : Hd} (h : RefAt w lo b E B V vt vh Q T Hs false) (c : Chg (fun k => vh.ownBlock = some k) w w1) (hr : w1.ownsRow lo 181 2 vh' (Hs ++ [p]).length (hdCells (Hs ++ [p]))) (hw : Wh w.heap.size vh vh') :
    RefAt (w1.setCell ⟨b, 13, none⟩ vh') lo b E B V vt vh' Q T (Hs ++ [p]) false ∧ Chg (fun k => k = b ∨ vh.ownBlock = some k) w (w1.setCell ⟨b, 13, none⟩ vh') := by
  have hbl : b < w.heap.size := World.block_lt_of_cell? _ _ h.tk
  have c2 : Chg (fun k => k = b) w1 (w1.setCell ⟨b, 13, none⟩ vh') := (Chg.refl (fun k => k = b) w1).setCell (p := ⟨b, 13, none⟩) (fun _ => rfl) _
  have ca : Chg (fun k => k = b ∨ vh.ownBlock = some k) w (w1.setCell ⟨b, 13, none⟩ vh') := (c.mono (fun k hk => .inr hk)).trans c2 (fun _ _ h => .inl h)
  have new : ∀ g, vh'.ownBlock = some g → vh.ownBlock = some g ∨ w.heap.size ≤ g := fun g hg => by
    rcases hw with e | e
    · exact .inl (by rw [← e]; exact hg)
    · exact .inr (e g hg)
  have nb : vh'.ownBlock ≠ some b := fun e => by
    rcases new _ e with h1 | h1
    · exact h.ownh h1
    · omega
  have old : ∀ j v, j ≠ 13 → w.cell? ⟨b, j, none⟩ = some v → (w1.setCell ⟨b, 13, none⟩ vh').cell? ⟨b, j, none⟩ = some v := fun j v hj hv => (World.cell?_setCell_other _ _ _ _ (by simp [hj])).trans (c.cellAt hv h.ownh)
  have kr : ∀ {v : Value} {L : List Rec}, w.ownsRow lo 53 5 v L.length (recCells L) → v.ownBlock ≠ some b → (∀ g, v.ownBlock = some g → vh.ownBlock ≠ some g) → (w1.setCell ⟨b, 13, none⟩ vh').ownsRow lo 53 5 v L.length (recCells L) := fun hr h1 h2 => ca.row' hr (fun k hk e => e.elim (fun e => h1 (by rw [← e]; exact hk)) (fun e => h2 k hk e))
  refine ⟨⟨fun j hj => old _ _ (by omega) (h.ep j hj), fun j hj => old _ _ (by omega) (h.ba j hj), fun j hj => old _ _ (by omega) (h.qu j hj), old _ _ (by omega) h.tk, World.cell?_setCell_same _ _ _ (c.cellAt h.hd h.ownh), old _ _ (by omega) h.cl, fun j => ?_, fun j hj => kr (h.rows j hj) (h.own j hj) (h.seph j hj), kr h.taken h.ownt h.septh, c2.row' hr (fun k hk e => nb (by rw [← e]; exact hk)), h.own, h.ownt, nb, h.sep, h.sept, fun j hj g hg e => ?_, fun g hg e => ?_, Nat.le_trans h.low ca.size⟩, ca⟩
  · rw [World.frozen?_setCell]
    exact (World.frozen?_of_block (w := w) (c.block b hbl h.ownh)).trans (h.fz j)
  · rcases new _ e with h1 | h1
    · exact h.seph j hj g hg h1
    · have := ((h.rows j hj).lt g hg).2; omega
  · rcases new _ e with h1 | h1
    · exact h.septh g hg h1
    · have := (h.taken.lt g hg).2; omega
set_option maxRecDepth 100000 in
set_option maxHeartbeats 4000000 in
theorem ranswer_any {w : World} {lo b : Nat} {E B : Nat → Int} {V : Nat → Value} {vt vh : Value} {Q : Nat → List Rec} {T : List Rec} {Hs : List Hd} {c : Bool} (h : RefAt w lo b E B V vt vh Q T Hs c) (key : ByteArray) (n : Int) (hkey : key.size ≤ maxLen) (hn : inInt n) (hT : T.length ≤ 1000) (hH : Hs.length < 1000000000)
    (hv : ∀ x ∈ T, 0 ≤ x.value ∧ x.value ≤ 4294967295) (ht : ∀ p ∈ Hs, 0 ≤ p.token ∧ p.token ≤ 1000) :
    Calls Tryz.prog 55 #[.pointer (some ⟨b, 0, none⟩), .string key, .int .i64 n] w fun e w' => e = .returned (.int .i64 (ansX T c key n).1) ∧ RansPost w w' lo b E B V vt vh Q T Hs (ansX T c key n).2 := by
  obtain ⟨i1, hi1, hy0, hy1, hy2⟩ := info_parts Tryz.infoHd
  unfold inInt at hn
  have hik := risKey_any key w hkey
  have hk2 := rkey2_any (name := key) h.tk h.taken h.hd h.held (by omega) (by omega) hv ht
  have hle := tally_take_le key T T.length
  rw [List.take_length] at hle
  obtain ⟨kk, hkk⟩ : ∃ kk, kk = keyR T Hs key (okKey key) := ⟨_, rfl⟩
  rw [← hkk] at hk2
  have hcl := h.cl
  have hA : Hid (ansX T c key n = if c = true then (1, none) else if okKey key = false then (3, none) else if kk.count = 0 then (8, none) else if n < 0 ∨ kk.count < n then (9, none) else (0, some ⟨key, n⟩)) := by
    show _ = _
    unfold ansX
    cases hc : c with
    | true => simp
    | false =>
      cases hok : okKey key with
      | false => simp
      | true =>
        have : kk.count = (tally key T).1 := by rw [hkk, hok]; rfl
        rw [this]
        try simp
  have hkr : 0 ≤ kk.count ∧ kk.count ≤ 1000 := by
    rw [hkk]
    unfold keyR
    split
    · simp only; omega
    · simp
  clear hkk hle
  obtain ⟨ok, hok⟩ : ∃ ok, okKey key = ok := ⟨_, rfl⟩
  rw [hok] at hik hk2 hA
  clear hok
  have step : ∀ (w1 : World), Chg (fun _ => False) w w1 → Hid (Chg (fun _ => False) w (w1.alloc (Obj.cells #[.string kk.name, .int .i64 kk.count, .int .i64 kk.fold, .int .i64 kk.held] 87)) ∧ RefAt (w1.alloc (Obj.cells #[.string kk.name, .int .i64 kk.count, .int .i64 kk.fold, .int .i64 kk.held] 87)) lo b E B V vt vh Q T Hs c) := fun w1 c1 => ⟨c1.alloc _, h.keep (c1.alloc _)⟩
  have STEP : Hid (∀ (w1 : World), Chg (fun _ => False) w w1 → Hid (Chg (fun _ => False) w (w1.alloc (Obj.cells #[.string kk.name, .int .i64 kk.count, .int .i64 kk.fold, .int .i64 kk.held] 87)) ∧ RefAt (w1.alloc (Obj.cells #[.string kk.name, .int .i64 kk.count, .int .i64 kk.fold, .int .i64 kk.held] 87)) lo b E B V vt vh Q T Hs c)) := step
  clear step
  go_enter Tryz.func55, Tryz.ntmps55
  go_wp2_with fail
  refine hik.mono ?_
  rintro _ w1 ⟨rfl, ew⟩
  rw [ew]
  clear ew w1 hik
  go_wp2_with fail
  refine hk2.mono ?_
  rintro _ w1 ⟨rfl, c1⟩
  clear hk2
  have hcl1 := c1.cellAt hcl id
  have hcl1a : ∀ o, (w1.alloc o).cell? ⟨b, 14, none⟩ = some (.bool c) := fun o => (World.cell?_alloc_lt w1 o _ (World.block_lt_of_cell? _ _ hcl1)).trans hcl1
  obtain ⟨cw, hR⟩ := (STEP.out w1 c1).out
  cases c with
  | true =>
    have HA' : Hid (ansX T true key n = (1, none)) := by show _ = _; rw [hA.out]; rfl
    clear hA
    go_wp2_with fail
    go_ret
    exact ⟨by rw [HA'.out]; rfl, by rw [HA'.out]; exact cw⟩
  | false =>
    cases ok with
    | false =>
      have HA' : Hid (ansX T false key n = (3, none)) := by show _ = _; rw [hA.out]; rfl
      clear hA
      go_wp2_with fail
      go_ret
      exact ⟨by rw [HA'.out]; rfl, by rw [HA'.out]; exact cw⟩
    | true =>
      by_cases h0 : kk.count = 0
      · have HA' : Hid (ansX T false key n = (8, none)) := by show _ = _; rw [hA.out]; simp [h0]
        have h0' : (kk.count == 0) = true := by simpa using h0
        clear hA h0
        go_wp2_with fail
        go_ret
        exact ⟨by rw [HA'.out]; rfl, by rw [HA'.out]; exact cw⟩
      · have h0' : (kk.count == 0) = false := by simpa using h0
        by_cases hb : n < 0 ∨ kk.count < n
        · have HA' : Hid (ansX T false key n = (9, none)) := by show _ = _; rw [hA.out]; simp [h0, hb]
          clear hA h0
          by_cases hn0 : n < 0
          · clear hb
            go_wp2_with fail
            go_ret
            exact ⟨by rw [HA'.out]; rfl, by rw [HA'.out]; exact cw⟩
          · have hn1 : kk.count < n := hb.resolve_left hn0
            clear hb
            go_wp2_with fail
            go_ret
            exact ⟨by rw [HA'.out]; rfl, by rw [HA'.out]; exact cw⟩
        · have HA' : Hid (ansX T false key n = (0, some ⟨key, n⟩)) := by show _ = _; rw [hA.out]; simp [h0, hb]
          have hn0 : ¬ n < 0 := fun e => hb (.inl e)
          have hn1 : ¬ kk.count < n := fun e => hb (.inr e)
          clear hA h0 hb
          obtain ⟨W2, hW2⟩ : ∃ W2, W2 = w1.alloc (Obj.cells #[.string kk.name, .int .i64 kk.count, .int .i64 kk.fold, .int .i64 kk.held] 87) := ⟨_, rfl⟩
          have hs2 : W2.heap.size = w1.heap.size + 1 := by rw [hW2]; simp
          rw [← hW2] at cw hR
          obtain ⟨v6, w6, hrun, o6, g6, e6⟩ := run_append_where (P := Tryz.prog) (W2.alloc (Obj.cells #[.string key, .int .i64 n] 181)) lo 135 135 181 i1 _ 2 24 Tryz.underlying135 hi1 hy0 hy1 hy2 rfl (by decide) _ _ _ (hR.held.alloc _) ⟨W2.heap.size, 0, none⟩ 1 1 [.string key, .int .i64 n] rfl (fun j y hj => by rw [add_lit', Nat.zero_add]; rcases j with _ | _ | j <;> simp at hj <;> subst hj <;> exact World.cell?_alloc_at _ _ _ _ rfl) (by simp [Value.oneCell']) (by unfold maxLen; omega) (by omega) (by have := hR.low; simp; omega)
          have c6 : Chg (fun g => vh.ownBlock = some g) W2 w6 := ((Chg.refl (fun g => vh.ownBlock = some g) W2).alloc _).trans (G := fun g => vh.ownBlock = some g) ⟨g6.os, g6.tape, g6.output, g6.size, fun k hk hne => g6.block k hk (fun e => hne e.symm)⟩ (fun _ _ h => h)
          have o6' : w6.ownsRow lo 181 2 v6 (Hs ++ [(⟨key, n⟩ : Hd)]).length (hdCells (Hs ++ [(⟨key, n⟩ : Hd)])) := by
            rw [hdCells_append, List.length_append]
            exact o6
          have hwh : Wh W2.heap.size vh v6 := e6.imp id (fun e k hk => by have := e k hk; rw [World.size_alloc] at this; omega)
          obtain ⟨hRF, cF⟩ := hR.hold c6 o6' hwh
          have d13 : w6.cell? ⟨b, 13, none⟩ = some vh := c6.cellAt hR.hd hR.ownh
          have f13 : w6.frozen? ⟨b, 13, none⟩ = false := (World.frozen?_of_block (w := W2) (c6.block b (World.block_lt_of_cell? _ _ hR.tk) hR.ownh)).trans (hR.fz 13)
          have hd1 := c1.cellAt h.hd id
          have hd1a : ∀ o, (w1.alloc o).cell? ⟨b, 13, none⟩ = some vh := fun o => (World.cell?_alloc_lt w1 o _ (World.block_lt_of_cell? _ _ hd1)).trans hd1
          obtain ⟨p6, k6, hp6⟩ := row_any o6
          subst hp6
          have hwh' : Wh w.heap.size vh (.slice p6 (Hs.length + 1) k6) := (Wh.refl _ _).trans hwh cw.size
          have cT : Chg (fun k => k = b ∨ vh.ownBlock = some k) w (w6.setCell ⟨b, 13, none⟩ (.slice p6 (Hs.length + 1) k6)) := (cw.mono (fun _ h => h.elim)).trans cF (fun _ _ h => h)
          rw [hs2, hW2] at hrun
          clear hW2 hs2
          go_wp2_with (at_builtin; refine Lib.wpList_append_run _ rfl (.tmp 40) (.tmp 44) 135 135 rfl _ _ rfl rfl (.slice p6 (Hs.length + 1) k6) w6 hrun ?_)
          go_ret
          exact ⟨by rw [HA'.out]; rfl, by rw [HA'.out]; exact (show RansPost _ _ _ _ _ _ _ _ _ _ _ _ (some ⟨key, n⟩) from ⟨_, hRF, hwh', cT⟩)⟩
end Go.Proofs.YthedkdbgfdjlkaaGreatDoor

namespace Go.Proofs.YthedkdbgfdjlkaaGreatDoor
set_option linter.unusedVariables false
set_option linter.unusedSimpArgs false
open Go.RowKit Go.Lib
def withHeld (Hs : List Hd) (k : Ky) : Ky := ⟨k.name, k.count, k.fold, heldOf k.name Hs⟩
theorem takeKy_names (name : ByteArray) (val : Int) : ∀ ks : List Ky, (takeKy name val ks).map (·.name) = insN name (ks.map (·.name))
  | [] => rfl
  | k :: r => by
    have ih := takeKy_names name val r
    unfold takeKy
    simp only [List.map_cons, insN]
    split
    · rfl
    · split
      · rfl
      · simp [ih]
theorem keysOf_snoc (T : List Rec) (x : Rec) (ks : List Ky) : keysOf (T ++ [x]) ks = takeKy x.key x.value (keysOf T ks) := by
  rw [keysOf_append]; rfl
theorem keysOf_namesR : ∀ (T : List Rec) (ks : List Ky), (keysOf T ks).map (·.name) = namesR T (ks.map (·.name))
  | [], ks => rfl
  | x :: r, ks => by
    have := keysOf_namesR r (takeKy x.key x.value ks)
    rw [takeKy_names] at this
    exact this
theorem keysR_eq (T : List Rec) (Hs : List Hd) : keysR T Hs (namesR T []) = (keysOf T []).map (withHeld Hs) := by
  have h1 := keysOf_namesR T []
  simp only [List.map_nil] at h1
  unfold keysR
  rw [← h1, List.map_map]
  refine List.map_congr_left fun k hk => ?_
  have h2 := (keysOf_tally T).2.1 k hk
  simp only [Function.comp, withHeld]
  rw [← h2]
theorem takeKy_held' (Hs : List Hd) (name : ByteArray) (val : Int) : ∀ {ks : List Ky}, Sorted ks → ((∃ k ∈ ks, k.name = name) ∨ heldOf name Hs = 0) → takeKy name val (ks.map (withHeld Hs)) = (takeKy name val ks).map (withHeld Hs)
  | [], _, h => by
    have h0 : heldOf name Hs = 0 := by
      rcases h with ⟨k, hk, _⟩ | h
      · simp at hk
      · exact h
    simp [takeKy, Ky.more, withHeld, h0]
  | k :: r, hs, h => by
    obtain ⟨h1, h2⟩ := List.pairwise_cons.1 hs
    have en : (withHeld Hs k).name = k.name := rfl
    simp only [List.map_cons, takeKy, en]
    by_cases e : k.name = name
    · rw [if_pos e, if_pos e]
      rfl
    · rw [if_neg e, if_neg e]
      have h' : (∃ y ∈ r, y.name = name) ∨ heldOf name Hs = 0 := by
        rcases h with ⟨y, hy, ey⟩ | h
        · rcases List.mem_cons.1 hy with rfl | hy
          · exact absurd ey e
          · exact .inl ⟨y, hy, ey⟩
        · exact .inr h
      by_cases hl : less name k.name = true
      · rw [if_pos hl, if_pos hl]
        have h0 : heldOf name Hs = 0 := by
          rcases h' with ⟨y, hy, ey⟩ | h
          · have := less_trans hl (h1 y hy)
            rw [ey, less_irrefl] at this
            cases this
          · exact h
        simp [Ky.more, withHeld, h0]
      · rw [if_neg hl, if_neg hl, takeKy_held' Hs name val h2 h']
        rfl
def HeldIn (T : List Rec) (Hs : List Hd) : Prop := ∀ p ∈ Hs, ∃ x ∈ T, x.key = p.key
theorem heldOf_none {name : ByteArray} : ∀ (l : List Hd) (m : Int), (∀ p ∈ l, p.key ≠ name) → l.foldl (heldOne name) m = m
  | [], m, _ => rfl
  | p :: r, m, h => by
    rw [List.foldl_cons]
    have : heldOne name m p = m := by unfold heldOne; rw [if_neg (h p (by simp))]
    rw [this]
    exact heldOf_none r m (fun q hq => h q (by simp [hq]))
theorem keys_take {T : List Rec} {Hs : List Hd} (hh : HeldIn T Hs) (x : Rec) : takeKy x.key x.value ((keysOf T []).map (withHeld Hs)) = (keysOf (T ++ [x]) []).map (withHeld Hs) := by
  rw [keysOf_snoc]
  refine takeKy_held' Hs x.key x.value (keysOf_tally T).1 ?_
  by_cases hx : ∃ y ∈ T, y.key = x.key
  · obtain ⟨y, hy, e⟩ := hx
    obtain ⟨k, hk, ek⟩ := (keysOf_tally T).2.2 y hy
    exact .inl ⟨k, hk, ek.trans e⟩
  · right
    refine heldOf_none Hs 0 (fun p hp e => hx ?_)
    obtain ⟨y, hy, ey⟩ := hh p hp
    exact ⟨y, hy, ey.trans e⟩
theorem HeldIn.more {T : List Rec} {Hs : List Hd} (h : HeldIn T Hs) (x : Rec) : HeldIn (T ++ [x]) Hs := fun p hp => by
  obtain ⟨y, hy, e⟩ := h p hp
  exact ⟨y, by simp [hy], e⟩
structure Waits (b : Int) (q : List Rec) (ws : List Wt) : Prop where
  perm : (q.map Rec.wt).Perm ws
  up : ws.Pairwise fun a b => a.num < b.num
  lo : ∀ y ∈ ws, b ≤ y.num
theorem idxR_none {m : Int} : ∀ {q : List Rec} {k : Nat}, idxR m q k = -1 ↔ ∀ x ∈ q, x.number ≠ m
  | [], k => by simp [idxR]
  | x :: r, k => by
    unfold idxR
    by_cases h : x.number = m
    · rw [if_pos h]
      constructor
      · intro e; omega
      · intro e; exact absurd h (e x (by simp))
    · rw [if_neg h, idxR_none]
      constructor
      · intro e y hy
        rcases List.mem_cons.1 hy with rfl | hy
        · exact h
        · exact e y hy
      · intro e y hy
        exact e y (by simp [hy])
theorem idxR_some {m : Int} : ∀ {q : List Rec} {k j : Nat}, idxR m q k = ((k + j : Nat) : Int) → ∃ x, q[j]? = some x ∧ x.number = m
  | [], k, j, h => by simp [idxR] at h; omega
  | x :: r, k, j, h => by
    unfold idxR at h
    by_cases e : x.number = m
    · rw [if_pos e] at h
      have : j = 0 := by omega
      subst this
      exact ⟨x, rfl, e⟩
    · rw [if_neg e] at h
      rcases idxR_lt m r (k + 1) with h1 | ⟨i, h1, h2⟩
      · omega
      · have hj : j = i + 1 := by omega
        subst hj
        obtain ⟨y, hy, ey⟩ := idxR_some (k := k + 1) (j := i) h2
        exact ⟨y, by simpa using hy, ey⟩
theorem drain_both (Hs : List Hd) : ∀ (f : Nat) (b : Int) (q T : List Rec) (ws : List Wt), q.length < f → Waits b q ws → HeldIn T Hs →
    ∃ b' q' T' ws', drainR f b q T = (b', q', T') ∧ drainW b ws ((keysOf T []).map (withHeld Hs)) = (b', ws', (keysOf T' []).map (withHeld Hs)) ∧ (q'.map Rec.wt).Perm ws' ∧ (ws'.Pairwise fun a b => a.num < b.num) ∧ (∀ y ∈ ws', b' < y.num) ∧ HeldIn T' Hs ∧ b ≤ b' ∧ T'.length + q'.length = T.length + q.length ∧ b' - b = T'.length - T.length ∧ (∀ x ∈ T', x ∈ T ∨ x ∈ q) ∧ (∀ x ∈ q', x ∈ q) ∧ (∀ y ∈ ws', y ∈ ws) ∧ ∃ L, T' = T ++ L
  | 0, b, q, T, ws, h, _, _ => by omega
  | f + 1, b, q, T, ws, hf, hw, hh => by
    rcases idxR_lt b q 0 with hix | ⟨j, hj, hix⟩
    · have hno := idxR_none.1 hix
      have hws : ∀ y ∈ ws, b < y.num := fun y hy => by
        have h1 := hw.lo y hy
        have h2 : y ∈ q.map Rec.wt := hw.perm.mem_iff.2 hy
        obtain ⟨x, hx, e⟩ := List.mem_map.1 h2
        have h3 := hno x hx
        have h4 : y.num = x.number := by rw [← e]; rfl
        omega
      refine ⟨b, q, T, ws, drainR_stop _ (by omega), ?_, hw.perm, hw.up, hws, hh, by omega, by omega, by omega, fun x hx => .inl hx, fun x hx => hx, fun y hy => hy, [], by simp⟩
      cases ws with
      | nil => rfl
      | cons y r =>
        have := hws y (by simp)
        simp only [drainW]
        rw [if_neg (by omega)]
    · rw [Nat.zero_add] at hix
      obtain ⟨x, hx, ex⟩ := idxR_some (k := 0) (j := j) (by simpa using hix)
      have hxm := List.mem_of_getElem? hx
      obtain ⟨hjl, ej⟩ := List.getElem?_eq_some_iff.1 hx
      have hsplit : q = q.take j ++ x :: q.drop (j + 1) := by
        conv => lhs; rw [← List.take_append_drop j q]
        rw [List.drop_eq_getElem_cons hjl, ej]
      have hperm : (x :: (q.take j ++ q.drop (j + 1))).Perm q := by
        conv => rhs; rw [hsplit]
        exact List.perm_middle.symm
      have hxw : x.wt ∈ ws := hw.perm.mem_iff.1 (List.mem_map.2 ⟨x, hxm, rfl⟩)
      obtain ⟨y, r, rfl⟩ : ∃ y r, ws = y :: r := by
        cases ws with
        | nil => simp at hxw
        | cons y r => exact ⟨y, r, rfl⟩
      obtain ⟨u1, u2⟩ := List.pairwise_cons.1 hw.up
      have hxn : x.wt.num = b := ex
      have hy : y = x.wt := by
        rcases List.mem_cons.1 hxw with e | e
        · exact e.symm
        · have h1 := u1 _ e
          have h2 := hw.lo y (by simp)
          omega
      subst hy
      have hw' : Waits (b + 1) (q.take j ++ q.drop (j + 1)) r := by
        refine ⟨?_, u2, fun z hz => by have := u1 z hz; omega⟩
        have h1 : (x.wt :: (q.take j ++ q.drop (j + 1)).map Rec.wt).Perm (x.wt :: r) := ((hperm.map Rec.wt).trans hw.perm)
        exact h1.cons_inv
      have hlen : (q.take j ++ q.drop (j + 1)).length + 1 = q.length := by
        have := hperm.length_eq
        simpa using this
      obtain ⟨b', q', T', ws', d1, d2, d3, d4, d5, d6, d7, d8, d9, d10, d11, d12, L, d13⟩ := drain_both Hs f (b + 1) (q.take j ++ q.drop (j + 1)) (T ++ [x]) r (by omega) hw' (hh.more x)
      have hsub : ∀ z ∈ q.take j ++ q.drop (j + 1), z ∈ q := fun z hz => hperm.mem_iff.1 (by simp at hz ⊢; exact .inr hz)
      refine ⟨b', q', T', ws', by rw [drainR_step _ hix hx]; exact d1, ?_, d3, d4, d5, d6, by omega, by simp at d8; omega, by simp at d9; omega, fun z hz => ?_, fun z hz => hsub z (d11 z hz), fun z hz => by simp [d12 z hz], x :: L, by rw [d13]; simp⟩
      · simp only [drainW]
        rw [if_pos hxn]
        have ek := keys_take hh x
        have e1 : takeKy x.wt.key x.wt.val ((keysOf T []).map (withHeld Hs)) = (keysOf (T ++ [x]) []).map (withHeld Hs) := ek
        rw [e1]
        exact d2
      · rcases d10 z hz with h1 | h1
        · rcases List.mem_append.1 h1 with h1 | h1
          · exact .inl h1
          · simp at h1; subst h1; exact .inr hxm
        · exact .inr (hsub z h1)
end Go.Proofs.YthedkdbgfdjlkaaGreatDoor

namespace Go.Proofs.YthedkdbgfdjlkaaGreatDoor
set_option linter.unusedVariables false
set_option linter.unusedSimpArgs false
open Go.RowKit Go.Lib
theorem AccAt.first {w w' : World} {lo cb sb i : Nat} {E B : Nat → Int} {V : Nat → Value} {vt vh : Value} {Q : Nat → List Rec} {T : List Rec} {Hs : List Hd} {c : Bool} (h : RefAt w lo cb E B V vt vh Q T Hs c) (hi : i < 4) (hcb : lo ≤ cb) (hc : Chg (fun _ => False) w w') (hsb : w.heap.size ≤ sb)
    (s0 : w'.cell? ⟨sb, 0, none⟩ = some (.int .i64 (E i))) (s1 : w'.cell? ⟨sb, 1, none⟩ = some (.int .i64 (B i))) (s2 : w'.cell? ⟨sb, 2, none⟩ = some (V i)) (fz : ∀ j, w'.frozen? ⟨sb, j, none⟩ = false) : AccAt w' lo cb sb i E B V Q (E i) (B i) (V i) vt (Q i) T := by
  have h' := h.keep hc
  have hcl : cb < w.heap.size := World.block_lt_of_cell? _ _ h.tk
  have hlow := h.low
  refine ⟨h'.ep, h'.ba, h'.qu, h'.tk, h'.fz, s0, s1, s2, fz, fun j hj _ => h'.rows j hj, h'.taken, h'.rows i hi, by omega, hcb, by omega, ⟨h.own i hi, fun e => ?_⟩, ⟨h.ownt, fun e => ?_⟩, fun j hj hne => ⟨h.own j hj, fun e => ?_⟩, fun g hg => h.sept i hi g hg, fun j hj hne g hg => ⟨h.sep j i hj hi hne g hg, h.sept j hj g hg⟩, fun j k hj hk _ _ hne g hg => h.sep j k hj hk hne g hg, h'.low⟩
  · have := ((h.rows i hi).lt _ e).2; omega
  · have := (h.taken.lt _ e).2; omega
  · have := ((h.rows j hj).lt _ e).2; omega
theorem AccAt.turn {w : World} {lo cb sb i : Nat} {E B : Nat → Int} {V : Nat → Value} {Q : Nat → List Rec} {te tb : Int} {vq vt : Value} {q T : List Rec} (h : AccAt w lo cb sb i E B V Q te tb vq vt q T) (hi : i < 4) (e : Int) {w1 w2 : World}
    (h1 : w1 = ((w.setCell ⟨sb, 0, none⟩ (.int .i64 e)).setCell ⟨sb, 1, none⟩ (.int .i64 0)).setCell ⟨sb, 2, none⟩ (.slice none 0 0)) (h2 : w2 = ((w1.setCell ⟨cb, i * 3, none⟩ (.int .i64 e)).setCell ⟨cb, i * 3 + 1, none⟩ (.int .i64 0)).setCell ⟨cb, i * 3 + 2, none⟩ (.slice none 0 0)) :
    AccAt w2 lo cb sb i (updF E i e) (updF B i 0) (updF V i (.slice none 0 0)) Q e 0 (.slice none 0 0) vt [] T ∧ Chg (fun k => lo ≤ k) w w2 := by
  have hcb : cb < w.heap.size := World.block_lt_of_cell? _ _ h.tk
  have hsb : sb < w.heap.size := World.block_lt_of_cell? _ _ h.s0
  have c1 : Chg (fun k => k = sb) w w1 := by rw [h1]; exact (((Chg.refl (fun k => k = sb) w).setCell (p := ⟨sb, 0, none⟩) (fun _ => rfl) _).setCell (p := ⟨sb, 1, none⟩) (fun _ => rfl) _).setCell (p := ⟨sb, 2, none⟩) (fun _ => rfl) _
  have c2 : Chg (fun k => k = cb) w1 w2 := by rw [h2]; exact (((Chg.refl (fun k => k = cb) w1).setCell (p := ⟨cb, i * 3, none⟩) (fun _ => rfl) _).setCell (p := ⟨cb, i * 3 + 1, none⟩) (fun _ => rfl) _).setCell (p := ⟨cb, i * 3 + 2, none⟩) (fun _ => rfl) _
  have ca : Chg (fun k => k = sb ∨ k = cb) w w2 := (c1.mono (fun _ h => .inl h)).trans c2 (fun _ _ h => .inr h)
  have hcs := h.cs
  have t0 : w1.cell? ⟨sb, 0, none⟩ = some (.int .i64 e) := by
    rw [h1]
    exact (World.cell?_setCell_other _ _ _ _ (by simp)).trans ((World.cell?_setCell_other _ _ _ _ (by simp)).trans (World.cell?_setCell_same _ _ _ h.s0))
  have t1 : w1.cell? ⟨sb, 1, none⟩ = some (.int .i64 0) := by
    rw [h1]
    exact (World.cell?_setCell_other _ _ _ _ (by simp)).trans (World.cell?_setCell_same _ _ _ ((World.cell?_setCell_other _ _ _ _ (by simp)).trans h.s1))
  have t2 : w1.cell? ⟨sb, 2, none⟩ = some (.slice none 0 0) := by
    rw [h1]
    exact World.cell?_setCell_same _ _ _ ((World.cell?_setCell_other _ _ _ _ (by simp)).trans ((World.cell?_setCell_other _ _ _ _ (by simp)).trans h.s2))
  have hB : Blk w1 cb 13 (fun j => if j < 12 then (if j % 3 = 0 then .int .i64 (E (j / 3)) else if j % 3 = 1 then .int .i64 (B (j / 3)) else V (j / 3)) else vt) := by
    refine ⟨fun j hj => ?_, fun j => ?_⟩
    · by_cases h12 : j < 12
      · rcases (by omega : j % 3 = 0 ∨ j % 3 = 1 ∨ j % 3 = 2) with h3 | h3 | h3
        · simp only [h12, h3, if_true]
          have := c1.cellAt (h.ep (j / 3) (by omega)) hcs
          rw [show j / 3 * 3 = j by omega] at this
          exact this
        · simp only [h12, h3, if_true]
          have := c1.cellAt (h.ba (j / 3) (by omega)) hcs
          rw [show j / 3 * 3 + 1 = j by omega] at this
          simpa using this
        · simp only [h12, h3, if_true]
          have := c1.cellAt (h.qu (j / 3) (by omega)) hcs
          rw [show j / 3 * 3 + 2 = j by omega] at this
          simpa using this
      · have : j = 12 := by omega
        subst this
        simpa using c1.cellAt h.tk hcs
    · exact (World.frozen?_of_block (w := w) (c1.block cb hcb hcs)).trans (h.fzc j)
  have hB2 := ((hB.set (i * 3) (.int .i64 e)).set (i * 3 + 1) (.int .i64 0)).set (i * 3 + 2) (.slice none 0 0)
  rw [← h2] at hB2
  have hnn : ∀ {v : Value} {L : List Rec}, w.ownsRow lo 53 5 v L.length (recCells L) → v.ownBlock ≠ some cb ∧ v.ownBlock ≠ some sb → w2.ownsRow lo 53 5 v L.length (recCells L) := fun hr hn => ca.row' hr (fun k hk e => e.elim (fun e => hn.2 (by rw [← e]; exact hk)) (fun e => hn.1 (by rw [← e]; exact hk)))
  refine ⟨⟨fun j hj => ?_, fun j hj => ?_, fun j hj => ?_, ?_, hB2.fz, c2.cellAt t0 (fun e => hcs e.symm), c2.cellAt t1 (fun e => hcs e.symm), c2.cellAt t2 (fun e => hcs e.symm), fun j => ?_, fun j hj hne => ?_, hnn h.taken h.ot, World.ownsRow_nil _ _ _ _, hcs, h.cl, h.sl, by simp [Value.ownBlock], h.ot, fun j hj hne => ?_, fun g hg => by simp [Value.ownBlock] at hg, fun j hj hne g hg => ?_, fun j k hj hk hji hki hne g hg => ?_, Nat.le_trans h.low ca.size⟩, ca.mono (fun k hk => hk.elim (fun e => by rw [e]; exact h.sl) (fun e => by rw [e]; exact h.cl))⟩
  · rw [hB2.cell _ (by omega), updV_ne _ _ (by omega), updV_ne _ _ (by omega)]
    by_cases e1 : j = i
    · subst e1; rw [updV_same, updF_same]
    · rw [updV_ne _ _ (by omega), updF_ne _ _ e1]
      simp only [show j * 3 < 12 by omega, show j * 3 % 3 = 0 by omega, show j * 3 / 3 = j by omega, if_true]
  · rw [hB2.cell _ (by omega), updV_ne _ _ (by omega)]
    by_cases e1 : j = i
    · subst e1; rw [updV_same, updF_same]
    · rw [updV_ne _ _ (by omega), updV_ne _ _ (by omega), updF_ne _ _ e1]
      simp only [show j * 3 + 1 < 12 by omega, show (j * 3 + 1) % 3 = 1 by omega, show (j * 3 + 1) / 3 = j by omega, if_true]
      simp
  · rw [hB2.cell _ (by omega)]
    by_cases e1 : j = i
    · subst e1; rw [updV_same, updF_same]
    · rw [updV_ne _ _ (by omega), updV_ne _ _ (by omega), updV_ne _ _ (by omega), updF_ne _ _ e1]
      simp only [show j * 3 + 2 < 12 by omega, show (j * 3 + 2) % 3 = 2 by omega, show (j * 3 + 2) / 3 = j by omega, if_true]
      simp
  · rw [hB2.cell _ (by omega), updV_ne _ _ (by omega), updV_ne _ _ (by omega), updV_ne _ _ (by omega)]
    simp
  · rw [h2, World.frozen?_setCell, World.frozen?_setCell, World.frozen?_setCell, h1, World.frozen?_setCell, World.frozen?_setCell, World.frozen?_setCell]
    exact h.fzs j
  · rw [updF_ne _ _ hne]; exact hnn (h.rows j hj hne) (h.ov j hj hne)
  · rw [updF_ne _ _ hne]; exact h.ov j hj hne
  · rw [updF_ne _ _ hne] at hg
    exact ⟨by simp [Value.ownBlock], (h.vq j hj hne g hg).2⟩
  · rw [updF_ne _ _ hji] at hg
    rw [updF_ne _ _ hki]
    exact h.vv j k hj hk hji hki hne g hg
end Go.Proofs.YthedkdbgfdjlkaaGreatDoor
