/- checkRecord, checkRoom, Clone, WALKED. -/
import Derived.Test.YtdoedjmdcmgddaaGreatN2
namespace Go.Proofs.YtdoedjmdcmgddaaGreat
set_option linter.unusedVariables false
set_option linter.unusedSimpArgs false
open Go.RowKit Go.Lib

theorem kinds_ok (c : UInt8) : decide (0 ≤ indexByte [99, 115, 108, 109] c) = okFirst c := by
  by_cases h1 : c = 99
  · subst h1; decide
  · by_cases h2 : c = 115
    · subst h2; decide
    · by_cases h3 : c = 108
      · subst h3; decide
      · by_cases h4 : c = 109
        · subst h4; decide
        · have g1 : ((99 : UInt8) == c) = false := by simp; exact fun h => h1 h.symm
          have g2 : ((115 : UInt8) == c) = false := by simp; exact fun h => h2 h.symm
          have g3 : ((108 : UInt8) == c) = false := by simp; exact fun h => h3 h.symm
          have g4 : ((109 : UInt8) == c) = false := by simp; exact fun h => h4 h.symm
          simp [indexByte, g1, g2, g3, g4, okFirst, h1, h2, h3, h4]

set_option maxRecDepth 100000 in
set_option maxHeartbeats 400000 in
theorem isKey_any (k : ByteArray) (w : World) (hk : k.size ≤ maxLen) :
    Calls Tryz.prog 82 #[.string k] w fun e w' => e = .returned (.bool (okKey k)) ∧ w' = w := by
  unfold maxLen at hk
  cases hl : k.data.toList with
  | nil =>
    have h0 : k.size = 0 := by show k.data.size = 0; rw [← Array.length_toList, hl]; rfl
    have hok : okKey k = false := by simp [okKey, hl]
    rw [hok]
    go_enter Tryz.func82, Tryz.ntmps82
    go_wp2
    go_ret
    exact ⟨rfl, rfl⟩
  | cons c r =>
    have h0 : 1 ≤ k.size := by show 1 ≤ k.data.size; rw [← Array.length_toList, hl]; simp
    have hc : k[0] = c := by
      have : k.data.toList[0]'(by rw [hl]; simp) = c := by simp [hl]
      exact this
    by_cases h6 : k.size ≤ 6
    · have hok : okKey k = okFirst c := by simp [okKey, hl, h6]
      rw [hok]
      have hib := Tryz.strings_IndexByte { data := #[99, 115, 108, 109] } (c.toNat : Int) w
      have hcc : ((c.toNat : Int)).toNat.toUInt8 = c := by simp
      rw [hcc] at hib
      clear hcc
      go_enter Tryz.func82, Tryz.ntmps82
      go_wp2_with fail
      refine hib.mono ?_
      rintro _ w1 ⟨rfl, hw⟩
      subst hw
      go_wp2_with fail
      go_ret
      exact ⟨by rw [← kinds_ok]; rfl, rfl⟩
    · have hok : okKey k = false := by simp [okKey, hl, h6]
      rw [hok]
      have h6' : ¬ (k.size : Int) ≤ 6 := by omega
      go_enter Tryz.func82, Tryz.ntmps82
      go_wp2
      go_ret
      exact ⟨rfl, rfl⟩

set_option maxRecDepth 100000 in
set_option maxHeartbeats 400000 in
theorem isValue_any (v : Int) (w : World) :
    Calls Tryz.prog 83 #[.int .i64 v] w fun e w' => e = .returned (.bool (decide (0 ≤ v ∧ v ≤ 4294967295))) ∧ w' = w := by
  by_cases h0 : 0 ≤ v
  · have h0d : decide (0 ≤ v) = true := by simpa using h0
    go_enter Tryz.func83, Tryz.ntmps83
    go_wp2
    go_ret
    exact ⟨by simp [h0], rfl⟩
  · have h0d : decide (0 ≤ v) = false := by simpa using h0
    go_enter Tryz.func83, Tryz.ntmps83
    go_wp2
    go_ret
    exact ⟨rfl, rfl⟩

/-- What is wrong with a record by itself. -/
def recErr (x : Rec) : Int := if x.session < 0 ∨ 4 ≤ x.session then 2 else if okKey x.key = false ∨ x.value < 0 ∨ 4294967295 < x.value then 3 else 0

set_option maxRecDepth 100000 in
set_option maxHeartbeats 400000 in
theorem checkRecord_any (x : Rec) (w : World) (hx : x.fits) :
    Calls Tryz.prog 53 #[x.value'] w fun e w' => e = .returned (.int .i64 (recErr x)) ∧ Chg (fun _ => False) w w' := by
  have hk := isKey_any x.key (w.alloc (.cells #[.int .i64 x.session, .int .i64 x.epoch, .int .i64 x.number, .string x.key, .int .i64 x.value] 37)) hx.key
  have hv := isValue_any x.value (w.alloc (.cells #[.int .i64 x.session, .int .i64 x.epoch, .int .i64 x.number, .string x.key, .int .i64 x.value] 37))
  have hcg : Chg (fun _ => False) w (w.alloc (.cells #[.int .i64 x.session, .int .i64 x.epoch, .int .i64 x.number, .string x.key, .int .i64 x.value] 37)) := (Chg.refl _ w).alloc _
  unfold Rec.value'
  by_cases hs : x.session < 0 ∨ 4 ≤ x.session
  · have he : recErr x = 2 := by simp [recErr, hs]
    rw [he]
    rcases hs with hs | hs
    · have hd : decide (x.session < 0) = true := by simpa using hs
      go_enter Tryz.func53, Tryz.ntmps53
      go_wp2_with fail
      go_ret
      exact ⟨rfl, hcg⟩
    · have hd : decide (x.session < 0) = false := by simp; omega
      go_enter Tryz.func53, Tryz.ntmps53
      go_wp2_with fail
      go_ret
      exact ⟨rfl, hcg⟩
  · have hs1 : ¬ x.session < 0 := fun h => hs (.inl h)
    have hs2 : ¬ 4 ≤ x.session := fun h => hs (.inr h)
    have hd : decide (x.session < 0) = false := by simpa using hs1
    by_cases hkk : okKey x.key = true
    · rw [hkk] at hk
      by_cases hvv : 0 ≤ x.value ∧ x.value ≤ 4294967295
      · have hvd : decide (0 ≤ x.value ∧ x.value ≤ 4294967295) = true := by simpa using hvv
        rw [hvd] at hv
        have he : recErr x = 0 := by simp [recErr, hs1, hs2, hkk]; omega
        rw [he]
        go_enter Tryz.func53, Tryz.ntmps53
        go_wp2_with fail
        refine hk.mono ?_
        rintro _ w1 ⟨rfl, hw⟩
        subst hw
        go_wp2_with fail
        refine hv.mono ?_
        rintro _ w2 ⟨rfl, hw⟩
        subst hw
        go_wp2_with fail
        go_ret
        exact ⟨rfl, hcg⟩
      · have hvd : decide (0 ≤ x.value ∧ x.value ≤ 4294967295) = false := by simpa using hvv
        rw [hvd] at hv
        have he : recErr x = 3 := by simp [recErr, hs1, hs2, hkk]; omega
        rw [he]
        go_enter Tryz.func53, Tryz.ntmps53
        go_wp2_with fail
        refine hk.mono ?_
        rintro _ w1 ⟨rfl, hw⟩
        subst hw
        go_wp2_with fail
        refine hv.mono ?_
        rintro _ w2 ⟨rfl, hw⟩
        subst hw
        go_wp2_with fail
        go_ret
        exact ⟨rfl, hcg⟩
    · have hkf : okKey x.key = false := by simpa using hkk
      rw [hkf] at hk
      have he : recErr x = 3 := by simp [recErr, hs1, hs2, hkf]
      rw [he]
      go_enter Tryz.func53, Tryz.ntmps53
      go_wp2_with fail
      refine hk.mono ?_
      rintro _ w1 ⟨rfl, hw⟩
      subst hw
      go_wp2_with fail
      go_ret
      exact ⟨rfl, hcg⟩

set_option maxRecDepth 100000 in
set_option maxHeartbeats 400000 in
theorem clone_any (s : ByteArray) (w : World) (hs : s.size ≤ 6) :
    Calls Tryz.prog 59 #[.string s] w fun e w' => e = .returned (.string s) ∧ Chg (fun _ => False) w w' := by
  go_enter Tryz.func59, Tryz.ntmps59
  go_wp2_with fail
  refine (Tryz.stringslite_Clone s w (by omega)).mono ?_
  rintro _ w1 ⟨rfl, hb⟩
  go_wp2_with fail
  go_ret
  exact ⟨rfl, ⟨hb.os, hb.tape, hb.output, hb.size, fun k hk _ => hb.block k hk⟩⟩

/-- Is there room for one record more of this key? -/
def roomErr (key : ByteArray) (ks : List Ky) (Q : Nat → List Wt) : Int :=
  if 4 ≤ (theNames ks Q).length ∧ ¬ key.data.toList ∈ theNames ks Q then 6 else if 1000 ≤ counts ks + qLens Q 4 then 7 else 0

set_option maxRecDepth 100000 in
set_option maxHeartbeats 400000 in
theorem checkRoom_any (lo b o : Nat) (E B : Nat → Int) (V : Nat → Value) (vk : Value) (Q : Nat → List Wt) (ks : List Ky) (key : ByteArray) (w : World) (hb : b < w.heap.size) (hF : FlowCells w b o E B V vk)
    (hk : w.ownsRow lo 60 4 vk ks.length (keyCells ks)) (hkn : ks.length ≤ 4) (hcn : ∀ k ∈ ks, 0 ≤ k.count ∧ k.count ≤ 1000) (hc0 : 0 ≤ counts ks ∧ counts ks ≤ 4000) (hq : ∀ i, i < 4 → w.ownsRow lo 144 3 (V i) (Q i).length (wtCells (Q i))) (hqn : ∀ i, i < 4 → (Q i).length ≤ 4) (hNl : (theNames ks Q).length ≤ 100) :
    Calls Tryz.prog 57 #[.pointer (some ⟨b, o, none⟩), .string key] w fun e w' => e = .returned (.int .i64 (roomErr key ks Q)) ∧ Chg (fun _ => False) w w' := by
  go_enter Tryz.func57, Tryz.ntmps57
  go_wp2_with fail
  refine (names_any lo b o E B V vk Q ks w hb hF hk hkn hq hqn).mono ?_
  rintro _ w1 ⟨v1, rfl, r1, c1⟩
  have hb1 : b < w1.heap.size := by have := c1.size; omega
  have hrec := fun (w2 : World) (c2 : Chg (fun _ => False) w w2) => records_any lo b o E B V vk Q ks w2 (by have := c2.size; omega) (hF.chg c2 id) (c2.row' hk (fun _ _ h => h.elim)) hkn hcn hc0 (fun i hi => c2.row' (hq i hi) (fun _ _ h => h.elim)) hqn
  have hr1 := hrec w1 c1
  obtain ⟨N, hN⟩ : ∃ N, N = theNames ks Q := ⟨_, rfl⟩
  rw [← hN] at r1 hNl
  have HN : Hid (N = theNames ks Q) := hN
  obtain ⟨T, hT⟩ : ∃ T, T = counts ks + qLens Q 4 := ⟨_, rfl⟩
  rw [← hT] at hr1
  have HT : Hid (T = counts ks + qLens Q 4) := hT
  clear hN hT hrec
  have hroom : Hid (roomErr key ks Q = if 4 ≤ N.length ∧ ¬ key.data.toList ∈ N then 6 else if 1000 ≤ T then 7 else 0) := by
    show _ = _
    rw [HN.out, HT.out]; rfl
  by_cases h4 : 4 ≤ N.length
  · obtain ⟨g, cap, rfl, hg, hcap, hcell⟩ := row_pos r1 (by omega)
    have hco := Tryz.slices_Contains_string g 0 N.length cap (N.map fun l => ⟨l.toArray⟩) key w1 (by simp) (by omega) (fun j hj => by
      have hj' : j < N.length := by simpa using hj
      rw [Nat.zero_add]
      refine hcell j _ ?_
      simp [List.getElem?_map, List.getElem?_eq_getElem hj'])
    rw [List.take_of_length_le (by simp)] at hco
    have h4' : (4 : Int) ≤ (N.length : Int) := by omega
    have hin : (containsS (N.map fun l => (⟨l.toArray⟩ : ByteArray)) key = true) ↔ key.data.toList ∈ N := by
      rw [containsS_iff, List.mem_map]
      constructor
      · rintro ⟨l, hl, rfl⟩; simpa using hl
      · intro h; exact ⟨_, h, by cases key; simp⟩
    by_cases hc : key.data.toList ∈ N
    · rw [hin.2 hc] at hco
      clear hin hcell
      go_wp2_with fail
      refine hco.mono ?_
      rintro _ w2 ⟨rfl, hw⟩
      subst hw
      go_wp2_with fail
      refine hr1.mono ?_
      rintro _ w3 ⟨rfl, c3⟩
      by_cases hf : 1000 ≤ T
      · go_wp2_with fail
        go_ret
        refine ⟨?_, c1.trans c3 (fun _ _ h => h)⟩
        rw [hroom.out]; simp [hc, hf]
      · go_wp2_with fail
        go_ret
        refine ⟨?_, c1.trans c3 (fun _ _ h => h)⟩
        rw [hroom.out]; simp [hc]; omega
    · have hcf : containsS (N.map fun l => (⟨l.toArray⟩ : ByteArray)) key = false := by
        cases e : containsS (N.map fun l => (⟨l.toArray⟩ : ByteArray)) key with
        | false => rfl
        | true => exact absurd (hin.1 e) hc
      rw [hcf] at hco
      clear hin hcell
      go_wp2_with fail
      refine hco.mono ?_
      rintro _ w2 ⟨rfl, hw⟩
      subst hw
      go_wp2_with fail
      go_ret
      refine ⟨?_, c1⟩
      rw [hroom.out]; simp [hc, h4]
  · obtain ⟨pp, cc, rfl⟩ := row_any r1
    have h4' : ¬ (4 : Int) ≤ (N.length : Int) := by omega
    go_wp2_with fail
    refine hr1.mono ?_
    rintro _ w3 ⟨rfl, c3⟩
    by_cases hf : 1000 ≤ T
    · go_wp2_with fail
      go_ret
      refine ⟨?_, c1.trans c3 (fun _ _ h => h)⟩
      rw [hroom.out]; simp [h4, hf]
    · go_wp2_with fail
      go_ret
      refine ⟨?_, c1.trans c3 (fun _ _ h => h)⟩
      rw [hroom.out]; simp [h4]; omega

end Go.Proofs.YtdoedjmdcmgddaaGreat
