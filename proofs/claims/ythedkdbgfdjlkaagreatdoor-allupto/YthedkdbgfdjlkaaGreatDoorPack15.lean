import Derived.Lib.ConvBytes
import Derived.Test.YthedkdbgfdjlkaaGreatDoorRows
import Derived.ProofKit
import Derived.OpenShut
import Derived.Carry
import Derived.Deep.Slices
import Derived.LaidLaws
import Derived.LaidHandle
import Derived.Stop.Joined
import Derived.Test.YthedkdbgfdjlkaaGreatDoorPack1
import Derived.Test.YthedkdbgfdjlkaaGreatDoorPack2
import Derived.Test.YthedkdbgfdjlkaaGreatDoorPack3
import Derived.Test.YthedkdbgfdjlkaaGreatDoorPack4
import Derived.Test.YthedkdbgfdjlkaaGreatDoorPack5
import Derived.Test.YthedkdbgfdjlkaaGreatDoorPack6
import Derived.Test.YthedkdbgfdjlkaaGreatDoorPack7
import Derived.Test.YthedkdbgfdjlkaaGreatDoorPack8
import Derived.Test.YthedkdbgfdjlkaaGreatDoorPack9
import Derived.Test.YthedkdbgfdjlkaaGreatDoorPack10
import Derived.Test.YthedkdbgfdjlkaaGreatDoorPack11
import Derived.Test.YthedkdbgfdjlkaaGreatDoorPack12
import Derived.Test.YthedkdbgfdjlkaaGreatDoorPack13
import Derived.Test.YthedkdbgfdjlkaaGreatDoorPack14
namespace Go.Proofs.YthedkdbgfdjlkaaGreatDoor
set_option linter.unusedVariables false
set_option linter.unusedSimpArgs false
open Go.RowKit Go.Lib Go.Conc.Locks
theorem rHead_none {row : ByteArray} {r : Rs} (h : (rHead row r).1 = none) : ∃ e, (rHead row r).2.err = some e := by
  unfold rHead at h ⊢
  cases he : (rParts row r).2.2.2.err with
  | some e =>
    simp only
    exact ⟨e, he⟩
  | none =>
    rw [he] at h
    simp only at h ⊢
    cases hr : restore (rParts row r).1 (rParts row r).2.1 (rParts row r).2.2.1 with
    | none =>
      simp only
      rw [Rs.fail_none _ _ he]
      exact ⟨_, rfl⟩
    | some s =>
      rw [hr] at h
      cases h
theorem rHead_some {row : ByteArray} {r : Rs} {s : St} (h : (rHead row r).1 = some s) : (rHead row r).2.err = none ∧ 0 < (rHead row r).2.at_ := by
  unfold rHead at h ⊢
  cases he : (rParts row r).2.2.2.err with
  | some e =>
    rw [he] at h
    cases h
  | none =>
    rw [he] at h
    simp only at h ⊢
    cases hr : restore (rParts row r).1 (rParts row r).2.1 (rParts row r).2.2.1 with
    | none =>
      rw [hr] at h
      cases h
    | some s =>
      simp only
      exact ⟨he, rParts_pos he⟩
theorem rHead_fits (row : ByteArray) : (rHead row ⟨0, none⟩).2.at_ ≤ row.size := by
  have h1 : (rParts row ⟨0, none⟩).2.2.2.at_ ≤ row.size := ((Rs.on.mark row ⟨0, none⟩).trans (rParts_on row ⟨0, none⟩)).fits (Nat.zero_le _)
  unfold rHead
  split
  · exact h1
  · split
    · exact (Rs.on.fail row _ 2).fits h1
    · exact h1
theorem readR_le (row : ByteArray) : (readR row).2.1 ≤ row.size := rLoop_le row _ _ _ _ (rHead_fits row) (Nat.zero_le _)
theorem opens_readR (row : ByteArray) : opens row = if (readR row).2.1 = 0 then none else match (readR row).2.2.err with
    | none => some ((readR row).1, (readR row).2.1)
    | some (_, f) => if f = 1 then some ((readR row).1, (readR row).2.1) else none := by
  unfold opens readR
  cases h : (rHead row ⟨0, none⟩).1 with
  | none =>
    obtain ⟨e, he⟩ := rHead_none h
    rw [rLoop_err row _ _ _ _ he]
    simp
  | some s =>
    obtain ⟨he, ha⟩ := rHead_some h
    have hp := rLoop_pos row (row.size + 1) s (rHead row ⟨0, none⟩).2 0 ha (.inr ⟨he, by omega⟩)
    simp only [Option.getD_some]
    rw [if_neg (by omega)]
    cases (rLoop row (row.size + 1) s (rHead row ⟨0, none⟩).2 0).2.2.err with
    | none => rfl
    | some x => rfl
theorem rowB_bytes (w : World) (t : ByteArray) : RowB (bytesWorld w 5 t) w.heap.size (.slice (some ⟨w.heap.size, 0, none⟩) t.size (grownCap w t.size 0 5)) t.data.toList := by
  have hl : t.data.toList.length = t.size := Array.length_toList
  have hge := grownCap_ge w t.size 0 5
  have hnew := bytesWorld_at_new w 5 t
  have hcs : (bytesCells w 5 t).size = grownCap w t.size 0 5 := by
    have : t.data.size = t.size := rfl
    simp [bytesCells]; omega
  refine .inr ⟨w.heap.size, _, by rw [hl], Nat.le_refl _, by rw [bytesWorld_size]; omega, by rw [hl]; exact hge, fun j u hj => ?_, fun j h5 h6 => ⟨?_, ?_⟩⟩
  · have hjl : j < t.data.toList.length := by
      have := (List.getElem?_eq_some_iff.1 hj).1
      rwa [bCells_len] at this
    have h6 := bytesWorld_cell w 5 t j (by omega)
    rw [h6]
    simp only [bCells, List.getElem?_map, List.getElem?_eq_getElem hjl, Option.map_some, Option.some.injEq] at hj
    rw [← hj]
    simp [List.getD, List.getElem?_eq_getElem hjl]
  · simp only [World.cell?, hnew]
    simp
    omega
  · simp only [World.frozen?, hnew]
    simp
    omega
theorem chg_bytes (w : World) (t : ByteArray) : Chg (fun _ => False) w (bytesWorld w 5 t) :=
  ⟨rfl, rfl, rfl, by rw [bytesWorld_size]; omega, fun k hk _ => bytesWorld_at_old w _ t k hk⟩
theorem relT_made {W : World} {lo : Nat} {E B : Nat → Int} {V : Nat → Value} {vk vb : Value} {Q : Nat → List Wt} {ks : List Ky} {s : St} {T : List UInt8} (hV : FlowV W lo E B V vk Q ks s) (hlo : lo ≤ W.heap.size) (hB : RowB W lo vb T) (hvb : ∀ k, vb.ownBlock = some k → ¬ Rows V vk k) :
    RelT T (W.alloc (.cells #[.int .i32 0, .int .u32 0, .int .u32 0, .int .i32 0, .int .u32 0, .bool false, .int .i64 (E 0), .int .i64 (B 0), V 0, .int .i64 (E 1), .int .i64 (B 1), V 1, .int .i64 (E 2), .int .i64 (B 2), V 2, .int .i64 (E 3), .int .i64 (B 3), V 3, vk, vb] 112)) ⟨W.heap.size, 0, none⟩ (some s) (fun k => lo ≤ k ∧ k < W.heap.size + 1) := by
  obtain ⟨w', hw⟩ : ∃ w', w' = W.alloc (.cells #[.int .i32 0, .int .u32 0, .int .u32 0, .int .i32 0, .int .u32 0, .bool false, .int .i64 (E 0), .int .i64 (B 0), V 0, .int .i64 (E 1), .int .i64 (B 1), V 1, .int .i64 (E 2), .int .i64 (B 2), V 2, .int .i64 (E 3), .int .i64 (B 3), V 3, vk, vb] 112) := ⟨_, rfl⟩
  have cA : Chg (fun _ => False) W w' := by rw [hw]; exact chg_alloc _ _
  have hs : w'.heap.size = W.heap.size + 1 := by rw [hw]; simp
  rw [← hw]
  have nb : ∀ k, Rows V vk k → k ≠ W.heap.size := fun k hk e => by have := hV.lt k hk; omega
  refine ⟨W.heap.size, rfl, ⟨hlo, by omega⟩, fun k hk => by rw [hs]; exact hk.2, ?_, E, B, V, vk, vb, Q, ks, ⟨⟨fun i hi => ?_, fun i hi => ?_, fun i hi => ?_, ?_⟩, fun j => ?_, fun i hi => cA.row' (hV.rows i hi) (fun _ _ h => h), cA.row' hV.keys (fun _ _ h => h), fun i hi e => nb _ (.inl ⟨i, hi, e⟩) rfl, fun e => nb _ (.inr e) rfl, hV.sep, hV.sepk, Nat.zero_le _⟩, hV.fit, hV.ties, fun k hk => ⟨hV.young k hk, by have := hV.lt k hk; omega⟩, ⟨?_, (hB.lower (Nat.zero_le _)).chg cA (fun _ _ h => h), fun e => by have := (hB.lt _ e).2; omega, hvb⟩, fun k hk => ⟨(hB.lt k hk).1, by have := (hB.lt k hk).2; omega⟩, hV.snd⟩
  · rw [hw]
    exact ⟨World.cell?_alloc_at _ _ _ _ rfl, World.cell?_alloc_at _ _ _ _ rfl, World.cell?_alloc_at _ _ _ _ rfl, World.cell?_alloc_at _ _ _ _ rfl, fun j => World.frozen?_alloc_at _ _ _ _ rfl⟩
  · rw [hw]
    rcases (by omega : i = 0 ∨ i = 1 ∨ i = 2 ∨ i = 3) with rfl | rfl | rfl | rfl <;> exact World.cell?_alloc_at _ _ _ _ rfl
  · rw [hw]
    rcases (by omega : i = 0 ∨ i = 1 ∨ i = 2 ∨ i = 3) with rfl | rfl | rfl | rfl <;> exact World.cell?_alloc_at _ _ _ _ rfl
  · rw [hw]
    rcases (by omega : i = 0 ∨ i = 1 ∨ i = 2 ∨ i = 3) with rfl | rfl | rfl | rfl <;> exact World.cell?_alloc_at _ _ _ _ rfl
  · rw [hw]
    exact World.cell?_alloc_at _ _ _ _ rfl
  · rw [hw]
    exact World.frozen?_alloc_at _ _ _ _ rfl
  · rw [hw]
    exact World.cell?_alloc_at _ _ _ _ rfl
theorem take_extract (row : ByteArray) (n : Nat) : (row.extract 0 n).data.toList = row.data.toList.take n := by
  rw [ByteArray.data_extract, Array.toList_extract]
  simp [List.extract_eq_take_drop]
def OpenRes (w w' : World) (row : ByteArray) (e : Ending) : Option (St × Nat) → Prop
  | none => e = .returned (.tuple #[.pointer none, .int .i64 10])
  | some (s, n) => ∃ a F, e = .returned (.tuple #[.pointer (some a), .int .i64 0]) ∧ RelT (row.data.toList.take n) w' a (some s) F ∧ (∀ k, F k → w.heap.size ≤ k)
set_option maxRecDepth 100000 in
set_option maxHeartbeats 4000000 in
theorem open_any (w : World) (row : ByteArray) (hrow : row.size ≤ maxLen) (hg : w.cell? ⟨0, 0, none⟩ = some (.iface 236 (.agg #[tyh 115]))) : Calls Tryz.prog 14 #[.string row] w fun e w' =>
    OpenRes w w' row e (opens row) ∧ Chg (fun _ => False) w w' := by
  have hop := opens_readR row
  have hle := readR_le row
  have hrd := read_any w row hrow
  obtain ⟨O, hO⟩ : ∃ O, O = opens row := ⟨_, rfl⟩
  rw [← hO] at hop ⊢
  clear hO
  have HO : Hid (O = if (readR row).2.1 = 0 then none else match (readR row).2.2.err with
    | none => some ((readR row).1, (readR row).2.1)
    | some (_, f) => if f = 1 then some ((readR row).1, (readR row).2.1) else none) := hop
  clear hop
  generalize readR row = R at hrd HO hle
  obtain ⟨s, n, rr⟩ := R
  simp only at hrd HO hle
  unfold flowVal at hrd
  go_enter Tryz.func14, Tryz.ntmps14
  go_upto_region 2 with (go_at_call 34; refine hrd.mono ?_; rintro _ w1 ⟨E, B, V, vk, Q, ks, ev, rfl, hV, hE, c1⟩; obtain ⟨p0, n0, hV0⟩ := row_any (hV.rows 0 (by omega)); obtain ⟨p1, n1, hV1⟩ := row_any (hV.rows 1 (by omega)); obtain ⟨p2, n2, hV2⟩ := row_any (hV.rows 2 (by omega)); obtain ⟨p3, n3, hV3⟩ := row_any (hV.rows 3 (by omega)); obtain ⟨pk2, nk2, hvk⟩ := row_any hV.keys; have HV0 : Hid (V 0 = .slice p0 (Q 0).length n0) := hV0; have HV1 : Hid (V 1 = .slice p1 (Q 1).length n1) := hV1; have HV2 : Hid (V 2 = .slice p2 (Q 2).length n2) := hV2; have HV3 : Hid (V 3 = .slice p3 (Q 3).length n3) := hV3; have HVK : Hid (vk = .slice pk2 ks.length nk2) := hvk; rw [hV0, hV1, hV2, hV3, hvk]; clear hV0 hV1 hV2 hV3 hvk)
  obtain ⟨W2, hW2⟩ : ∃ W2, W2 = w1.alloc (.cells #[.int .i64 (E 0), .int .i64 (B 0), .slice p0 (Q 0).length n0, .int .i64 (E 1), .int .i64 (B 1), .slice p1 (Q 1).length n1, .int .i64 (E 2), .int .i64 (B 2), .slice p2 (Q 2).length n2, .int .i64 (E 3), .int .i64 (B 3), .slice p3 (Q 3).length n3, .slice pk2 ks.length nk2] 98) := ⟨_, rfl⟩
  have c2 : Chg (fun _ => False) w1 W2 := by rw [hW2]; exact (Chg.refl _ w1).alloc _
  have fy : FlowCells W2 w1.heap.size 0 E B V vk := by
    rw [hW2, ← HV0.out, ← HV1.out, ← HV2.out, ← HV3.out, ← HVK.out]
    exact flow_alloc w1 98 E B V vk
  rw [← hW2]
  clear hW2 hrd
  have h02 : Chg (fun _ => False) w W2 := c1.trans c2 (fun _ _ h => h)
  have hcv := fun (W : World) (t : ByteArray) => Lib.run_convert_string_bytes (P := Tryz.prog) W 9 88 5 t Tryz.underlying9 Tryz.underlying88 Tryz.underlying5
  have hle' : (n : Int) ≤ (row.size : Int) := by omega
  by_cases hn : n = 0
  · have e : Hid (O = none) := by show _ = _; rw [HO.out, if_pos hn]
    clear HO
    subst hn
    go_wp2_with fail
    go_ret2
    exact ⟨by rw [e.out]; rfl, h02⟩
  · have HO1 : Hid (O = match rr.err with
      | none => some (s, n)
      | some (_, f) => if f = 1 then some (s, n) else none) := by show _ = _; rw [HO.out, if_neg hn]
    clear HO
    have hn' : ((n : Int) == 0) = false := by simp; omega
    cases hre : rr.err with
    | none =>
      rw [hre] at hE
      have hev : ev = .nilIface := hE
      subst hev
      have e : Hid (O = some (s, n)) := by show _ = _; rw [HO1.out, hre]
      clear HO1
      have fyb : FlowCells (bytesWorld W2.drew 5 (row.extract 0 n)) w1.heap.size 0 E B V vk := fy.chg ((Chg.refl (fun _ => False) W2).drew.trans (chg_bytes W2.drew _) (fun _ _ h => h)) id
      have y0 := fy.ep 0 (by omega)
      have y1 := fy.ba 0 (by omega)
      have y2 := fy.qu 0 (by omega)
      have y3 := fy.ep 1 (by omega)
      have y4 := fy.ba 1 (by omega)
      have y5 := fy.qu 1 (by omega)
      have y6 := fy.ep 2 (by omega)
      have y7 := fy.ba 2 (by omega)
      have y8 := fy.qu 2 (by omega)
      have y9 := fy.ep 3 (by omega)
      have y10 := fy.ba 3 (by omega)
      have y11 := fy.qu 3 (by omega)
      have y12 := fy.le
      simp only [Nat.zero_mul, Nat.one_mul, Nat.add_zero, Nat.zero_add, Nat.reduceMul, Nat.reduceAdd] at y0 y1 y2 y3 y4 y5 y6 y7 y8 y9 y10 y11 y12
      rw [HV0.out] at y2
      rw [HV1.out] at y5
      rw [HV2.out] at y8
      rw [HV3.out] at y11
      rw [HVK.out] at y12
      have v0 := fyb.ep 0 (by omega)
      have v1 := fyb.ba 0 (by omega)
      have v2 := fyb.qu 0 (by omega)
      have v3 := fyb.ep 1 (by omega)
      have v4 := fyb.ba 1 (by omega)
      have v5 := fyb.qu 1 (by omega)
      have v6 := fyb.ep 2 (by omega)
      have v7 := fyb.ba 2 (by omega)
      have v8 := fyb.qu 2 (by omega)
      have v9 := fyb.ep 3 (by omega)
      have v10 := fyb.ba 3 (by omega)
      have v11 := fyb.qu 3 (by omega)
      have v12 := fyb.le
      simp only [Nat.zero_mul, Nat.one_mul, Nat.add_zero, Nat.zero_add, Nat.reduceMul, Nat.reduceAdd] at v0 v1 v2 v3 v4 v5 v6 v7 v8 v9 v10 v11 v12
      rw [HV0.out] at v2
      rw [HV1.out] at v5
      rw [HV2.out] at v8
      rw [HV3.out] at v11
      rw [HVK.out] at v12
      go_upto_region 4 with fail
      go_region
      all_goals
        go_wp2_with fail
        go_ret2
        have hsz : (row.extract 0 n).size = n := by simp only [ByteArray.size_extract]; omega
        have cb : Chg (fun _ => False) W2 (bytesWorld W2.drew 5 (row.extract 0 n)) := (Chg.refl (fun _ => False) W2).drew.trans (chg_bytes W2.drew _) (fun _ _ h => h)
        have hrow := rowB_bytes W2.drew (row.extract 0 n)
        rw [hsz, take_extract] at hrow
        have hVb := (hV.chg (c2.trans cb (fun _ _ h => h)) (fun _ _ h => h))
        have hlo : w.heap.size ≤ W2.heap.size := h02.size
        have hmk := relT_made hVb (Nat.le_trans hlo cb.size) (hrow.lower hlo) (fun k hk h => by
          have h1 : W2.heap.size = k := by simpa [Value.ownBlock] using hk
          have := hV.lt k h
          have := c2.size
          omega)
        rw [HV0.out, HV1.out, HV2.out, HV3.out, HVK.out] at hmk
        refine ⟨?_, (h02.trans cb (fun _ _ h => h)).alloc _⟩
        rw [e.out]
        exact ⟨_, _, rfl, hmk, fun k hk => hk.1⟩
    | some x =>
      obtain ⟨ep, ef⟩ := x
      rw [hre] at hE
      obtain ⟨gp, rfl, eg⟩ := hE
      have hic := isCut_any gp ef W2 (h02.cellAt hg id) (c2.cellAt eg id)
      by_cases hef : ef = 1
      · have e : Hid (O = some (s, n)) := by show _ = _; rw [HO1.out, hre]; simp [hef]
        clear HO1
        rw [decide_eq_true hef] at hic
        go_upto_region 4 with (go_at_call 35; refine hic.mono ?_; rintro _ w3 ⟨rfl, c3⟩)
        have fy3 := fy.chg c3 id
        have c13 : Chg (fun _ => False) w1 w3 := c2.trans c3 (fun _ _ h => h)
        have h03 : Chg (fun _ => False) w w3 := h02.trans c3 (fun _ _ h => h)
        have fyb : FlowCells (bytesWorld w3.drew 5 (row.extract 0 n)) w1.heap.size 0 E B V vk := fy3.chg ((Chg.refl (fun _ => False) w3).drew.trans (chg_bytes w3.drew _) (fun _ _ h => h)) id
        have y0 := fy3.ep 0 (by omega)
        have y1 := fy3.ba 0 (by omega)
        have y2 := fy3.qu 0 (by omega)
        have y3 := fy3.ep 1 (by omega)
        have y4 := fy3.ba 1 (by omega)
        have y5 := fy3.qu 1 (by omega)
        have y6 := fy3.ep 2 (by omega)
        have y7 := fy3.ba 2 (by omega)
        have y8 := fy3.qu 2 (by omega)
        have y9 := fy3.ep 3 (by omega)
        have y10 := fy3.ba 3 (by omega)
        have y11 := fy3.qu 3 (by omega)
        have y12 := fy3.le
        simp only [Nat.zero_mul, Nat.one_mul, Nat.add_zero, Nat.zero_add, Nat.reduceMul, Nat.reduceAdd] at y0 y1 y2 y3 y4 y5 y6 y7 y8 y9 y10 y11 y12
        rw [HV0.out] at y2
        rw [HV1.out] at y5
        rw [HV2.out] at y8
        rw [HV3.out] at y11
        rw [HVK.out] at y12
        have v0 := fyb.ep 0 (by omega)
        have v1 := fyb.ba 0 (by omega)
        have v2 := fyb.qu 0 (by omega)
        have v3 := fyb.ep 1 (by omega)
        have v4 := fyb.ba 1 (by omega)
        have v5 := fyb.qu 1 (by omega)
        have v6 := fyb.ep 2 (by omega)
        have v7 := fyb.ba 2 (by omega)
        have v8 := fyb.qu 2 (by omega)
        have v9 := fyb.ep 3 (by omega)
        have v10 := fyb.ba 3 (by omega)
        have v11 := fyb.qu 3 (by omega)
        have v12 := fyb.le
        simp only [Nat.zero_mul, Nat.one_mul, Nat.add_zero, Nat.zero_add, Nat.reduceMul, Nat.reduceAdd] at v0 v1 v2 v3 v4 v5 v6 v7 v8 v9 v10 v11 v12
        rw [HV0.out] at v2
        rw [HV1.out] at v5
        rw [HV2.out] at v8
        rw [HV3.out] at v11
        rw [HVK.out] at v12
        go_region
        all_goals
          go_wp2_with fail
          go_ret2
          have hsz : (row.extract 0 n).size = n := by simp only [ByteArray.size_extract]; omega
          have cb : Chg (fun _ => False) w3 (bytesWorld w3.drew 5 (row.extract 0 n)) := (Chg.refl (fun _ => False) w3).drew.trans (chg_bytes w3.drew _) (fun _ _ h => h)
          have hrow := rowB_bytes w3.drew (row.extract 0 n)
          rw [hsz, take_extract] at hrow
          have hVb := (hV.chg (c13.trans cb (fun _ _ h => h)) (fun _ _ h => h))
          have hlo : w.heap.size ≤ w3.heap.size := h03.size
          have hmk := relT_made hVb (Nat.le_trans hlo cb.size) (hrow.lower hlo) (fun k hk h => by
            have h1 : w3.heap.size = k := by simpa [Value.ownBlock] using hk
            have := hV.lt k h
            have := c13.size
            omega)
          rw [HV0.out, HV1.out, HV2.out, HV3.out, HVK.out] at hmk
          refine ⟨?_, (h03.trans cb (fun _ _ h => h)).alloc _⟩
          rw [e.out]
          exact ⟨_, _, rfl, hmk, fun k hk => hk.1⟩
      · have e : Hid (O = none) := by show _ = _; rw [HO1.out, hre]; simp [hef]
        clear HO1
        rw [decide_eq_false hef] at hic
        go_wp2_with (go_at_call 35; refine hic.mono ?_; rintro _ w3 ⟨rfl, c3⟩)
        go_ret2
        exact ⟨by rw [e.out]; rfl, h02.trans c3 (fun _ _ h => h)⟩
end Go.Proofs.YthedkdbgfdjlkaaGreatDoor

namespace Go.Proofs.YthedkdbgfdjlkaaGreatDoor
set_option linter.unusedVariables false
set_option linter.unusedSimpArgs false
open Go.RowKit
def HandleAt (w : World) : Prop := w.cell? ⟨0, 0, none⟩ = some (.iface 236 (.agg #[tyh 115]))
theorem HandleAt.chg {F : Nat → Prop} {w w' : World} (h : HandleAt w) (c : Chg F w w') (hF : ¬ F 0) : HandleAt w' := c.cellAt h hF
theorem HandleAt.pos {w : World} (h : HandleAt w) : 0 < w.heap.size := World.block_lt_of_cell? _ _ h
theorem take_all (T : List UInt8) (n : Nat) (h : n = T.length) : (⟨T.toArray⟩ : ByteArray).data.toList.take n = T := by subst h; simp
theorem ba_size (T : List UInt8) : (⟨T.toArray⟩ : ByteArray).size = T.length := by
  show T.toArray.size = T.length
  simp
end Go.Proofs.YthedkdbgfdjlkaaGreatDoor

namespace Go.Proofs.YthedkdbgfdjlkaaGreatDoor
set_option linter.unusedVariables false
set_option linter.unusedSimpArgs false
open Go.RowKit Go.Lib
theorem bytes_list (T : List UInt8) : (⟨T.toArray⟩ : ByteArray).data.toList = T := by simp
set_option maxRecDepth 100000 in
set_option maxHeartbeats 4000000 in
theorem bytesOf_open {W0 w : World} {wb n N : Nat} (hx : Wx W0 w wb n N) (hN : N ≤ 10000000) (hg : HandleAt w) {k : Nat} (hk : k < n) (o : OpD) (hf : o.fits) (hkd : o.kind = 9) :
    Calls Tryz.prog 28 #[.pointer (some ⟨wb, 0, none⟩), .int .i64 k, o.value] w fun e w' => e = .returned (.bool true) ∧ ∃ n', n ≤ n' ∧ Wx W0 w' wb n' (N + 1) := by
  obtain ⟨z, pa, ra, st, T, FP, FR, B, r, L, vp, vr, K, h⟩ := hx
  obtain ⟨kd, on, ⟨xs, xe, xn, xk, xv⟩, key, num⟩ := o
  have hnum := hf.num
  simp only at hkd hnum
  clear hf
  subst hkd
  obtain ⟨gp, cp, gr, cr, rfl, rfl, m1, m2⟩ := h.at_k hk
  have hn : n ≤ 10000000 := Nat.le_trans h.many hN
  have hk' : (k : Int) < (n : Int) := by omega
  obtain ⟨W1, hW1⟩ : ∃ W1, W1 = w.alloc (.cells #[.int .i64 9, .int .i64 on, .int .i64 xs, .int .i64 xe, .int .i64 xn, .string xk, .int .i64 xv, .string key, .int .i64 num] 82) := ⟨_, rfl⟩
  have c0 : Chg (fun _ => False) w W1 := by rw [hW1]; exact (Chg.refl _ w).alloc _
  have ho : ∀ j u, (OpD.cells ⟨9, on, ⟨xs, xe, xn, xk, xv⟩, key, num⟩)[j]? = some u → W1.cell? ⟨w.heap.size, j, none⟩ = some u := by rw [hW1]; exact opd_new w _
  have o0 := ho 0 _ rfl
  have o8 := ho 8 _ rfl
  have h0 := h.keep c0
  have g0 := hg.chg c0 id
  have hal : ∀ (p : Addr) (v : Value), w.cell? p = some v → ∀ ob, (w.alloc ob).cell? p = some v := fun p v hv ob => (World.cell?_alloc_lt w ob p (World.block_lt_of_cell? _ _ hv)).trans hv
  have a0 := hal _ _ h.c0
  have a1 := hal _ _ h.c1
  have n1 := hal _ _ m1
  have n2 := hal _ _ m2
  have hnt := ref_nothing (h0.relR k hk)
  obtain ⟨pk, ck, hvk⟩ := row_any h0.kept.row
  have hKN := h0.kept.many
  unfold OpD.value
  simp only
  by_cases hK : K.n = 0
  · rw [hK] at hvk
    go_enter Tryz.func28, Tryz.ntmps28
    go_wp2_with (go_at_call 56; rw [← hW1]; refine hnt.mono ?_; rintro _ w1 ⟨rfl, c1⟩; have s0 := c1.cellAt o0 id; have s8 := c1.cellAt o8 id; have h1 := h0.keep c1; have g1 := g0.chg c1 id; have kc := h1.kept.cell; rw [hvk] at kc)
    go_ret
    exact ⟨rfl, n, Nat.le_refl _, _, _, _, _, _, _, _, _, _, _, _, _, _, h1.up⟩
  · have hK' : ((K.n : Int) == 0) = false := by simp; omega
    have hpk : ∀ (w : World), Calls Tryz.prog 26 #[.int .i64 num, .int .i64 K.n] w fun e w' => e = .returned (.int .i64 (pickI num K.n)) ∧ w' = w := fun w => lpick_any num K.n w hnum (by omega) (by omega)
    obtain ⟨hr0, hr1⟩ := pickI_range (c := num) (n := (K.n : Int)) (by omega)
    obtain ⟨i, hi⟩ : ∃ i : Nat, pickI num K.n = (i : Int) := ⟨(pickI num K.n).toNat, by omega⟩
    rw [hi] at hr0 hr1 hpk
    have hiK : i < K.n := by omega
    obtain ⟨kcx, kcy⟩ := keptCells_at K.b K.a K.n i hiK
    have hentP : ∀ args w, (callFunc 26 args).run Tryz.prog w = .ok (.enter 26 args) w := enters_of Tryz.func26 (by kernel_rfl) rfl
    go_enter Tryz.func28, Tryz.ntmps28
    go_upto_region 16 with (go_at_call 56; rw [← hW1]; refine hnt.mono ?_; rintro _ w1 ⟨rfl, c1⟩; have s0 := c1.cellAt o0 id; have s8 := c1.cellAt o8 id; have h1 := h0.keep c1; have g1 := g0.chg c1 id; have kc := h1.kept.cell; rw [hvk] at kc)
    clear hW1 hnt a0 a1 n1 n2 hal hK' s0
    have hrow := h1.kept.row
    rw [hvk] at hrow
    obtain ⟨gk, ck2, hvs, _, _, hcell⟩ := row_pos hrow (by omega)
    simp only [Value.slice.injEq] at hvs
    obtain ⟨rfl, _, rfl⟩ := hvs
    have x0 := hcell _ _ kcx
    have x1 := hcell _ _ kcy
    clear hcell kcx kcy hrow
    have hal1 : ∀ (p : Addr) (v : Value), w1.cell? p = some v → ∀ ob, (w1.alloc ob).cell? p = some v := fun p v hv ob => (World.cell?_alloc_lt w1 ob p (World.block_lt_of_cell? _ _ hv)).trans hv
    have x0' := hal1 _ _ x0
    have x1' := hal1 _ _ x1
    have s8' := hal1 _ _ s8
    have kc' := hal1 _ _ kc
    clear hal1
    go_cut [13] from 95 to 108 (fun sx wc => ∃ (g : Nat), sx = .pointer (some ⟨g, 0, none⟩) ∧ w1.heap.size ≤ g ∧ wc.cell? ⟨g, 0, none⟩ = some (.string ⟨(K.b i).toArray⟩) ∧ wc.cell? ⟨g, 1, none⟩ = some (.pointer (some (K.a i))) ∧ Chg (fun _ => False) w1 wc)
    case first =>
      have hiK' : (i : Int) < (K.n : Int) := hr1
      clear h h0 h1 hg g0 g1 c0 ho o0 o8 hnum hN hn hk' hk m1 m2 hKN hi hr0 hr1 hvk c1
      go_region_law (refine step_call rfl 26 _ _ rfl _ (by simp [Act.eval, Act.put]) hentP (hpk _) (fun e' w9 he' => ?_); obtain ⟨rfl, rfl⟩ := he'; refine ⟨_, rfl, ?_⟩)
      all_goals
        go_wp2_with fail
        go_meet
        case rel => exact ⟨_, rfl, Nat.le_refl _, World.cell?_alloc_at _ _ _ _ rfl, World.cell?_alloc_at _ _ _ _ rfl, ((Chg.refl _ w1).drew).alloc _⟩
    case rest =>
      obtain ⟨g, rfl, hgl, y0, y1, cc⟩ := hcut
      have h2 := h1.keep cc
      have g2 := g1.chg cc id
      have htk := h2.kept.tel i hiK
      have hlk := h2.kept.len i hiK
      have hop := open_any wc ⟨(K.b i).toArray⟩ (by rw [ba_size]; unfold maxLen; omega) g2
      have hwh : opens ⟨(K.b i).toArray⟩ = some (K.s i, (K.b i).length) := htk.whole (bytes_list _)
      rw [hwh] at hop
      clear hwh kc x0 x1 s8 x0' x1' s8' kc'
      go_upto_region 21 with (first
        | (go_at_call 14; refine hop.mono ?_; rintro _ w3 ⟨⟨a, F, rfl, hP0, hF⟩, c3⟩; rw [take_all _ _ rfl] at hP0; obtain ⟨p1', k1', w4, t1, d0, d20, f20, d21, c13, hs⟩ := more_runs h2 (by omega) hP0 hF htk (by omega) c3)
        | (at_builtin; refine Lib.wpList_append_run _ rfl (.tmp 125) (.tmp 127) 70 70 rfl _ _ rfl rfl (.slice p1' (n + 1) k1') w4 t1 ?_))
      obtain ⟨w5, hw5⟩ : ∃ w5, w5 = w4.setCell ⟨wb, 0, none⟩ (.slice p1' (n + 1) k1') := ⟨_, rfl⟩
      have d51 : w5.cell? ⟨wb, 1, none⟩ = some (.slice (some ⟨gr, 0, none⟩) n cr) := by rw [hw5]; exact (World.cell?_setCell_other _ _ _ _ (by simp)).trans d21
      rw [← hw5] at c13 hs
      have hgw : ¬ (g = wb ∨ (Value.slice (some ⟨gp, 0, none⟩) n cp).ownBlock = some g) := fun f => by
        rcases f with f | f
        · have := h1.lt; omega
        · have := (h1.rp.lt g f).2; omega
      have y1' := c13.cellAt y1 hgw
      have hRk := h2.kept.rel i hiK
      have hR5 : RefRel N w5 (K.a i) (some (K.s i)) (K.F i) := ref_stable hRk (fun q hq => c13.block q (ref_lt hRk hq) (fun f => by
        have := h2.kept.zK i hiK q hq
        rcases f with f | f
        · rw [f, h2.zw] at this; omega
        · have := h2.zp q f; omega))
      have cd : Chg (fun _ => False) w5 w5.drew := (Chg.refl _ w5).drew
      have hcp := ref_copy (ref_stable hR5 (fun q hq => cd.block q (ref_lt hR5 hq) id)) (by omega)
      have hs5 : w4.heap.size = w5.heap.size := by rw [hw5]; simp [World.setCell]
      clear hop y0 hF
      rw [← hw5]
      clear hw5
      have hentC : ∀ args w, (callFunc 57 args).run Tryz.prog w = .ok (.enter 57 args) w := enters_of Tryz.func57 (by kernel_rfl) rfl
      go_region_law (first
        | (refine step_call rfl 57 _ _ rfl _ (by simp [Act.eval, Act.put]) hentC hcp (fun e' w6 he' => ?_); obtain ⟨a2, G, rfl, hR, hG, c6⟩ := he'; refine ⟨_, rfl, ?_⟩; obtain ⟨da1, p2', k2', w7, t2, d41, f41, hfin⟩ := hs w6 a2 G (cd.trans c6 (fun _ _ h => h)) (ref_more hR (Nat.le_succ _)) (fun q hq => by rw [hs5]; exact hG q hq); have da2 := fun ob => ((Chg.refl (fun _ => False) w6).alloc ob).cellAt da1 id)
        | (refine step_run rfl (.tmp 135) (.tmp 139) 71 71 rfl _ _ (by simp [Act.eval, Act.put]) (by simp [Act.eval, Act.put]) _ _ t2 ?_))
      all_goals
        go_wp2_with fail
        go_ret
        exact ⟨rfl, n + 1, by omega, hfin⟩
end Go.Proofs.YthedkdbgfdjlkaaGreatDoor

namespace Go.Proofs.YthedkdbgfdjlkaaGreatDoor
set_option linter.unusedVariables false
set_option linter.unusedSimpArgs false
open Go.RowKit
theorem nums_next {L M : List Wt} {j : Nat} {x y : Wt} (h : (L.take j).map (·.num) = (M.take j).map (·.num)) (hx : L[j]? = some x) (hy : M[j]? = some y) (e : x.num = y.num) : (L.take (j + 1)).map (·.num) = (M.take (j + 1)).map (·.num) := by
  rw [List.take_add_one, List.take_add_one, hx, hy, List.map_append, List.map_append, h]
  simp [e]
def BoolIf (e : Ending) (P : Prop) : Prop := ∃ t : Bool, e = .returned (.bool t) ∧ (t = true → P)
theorem boolIf_no (P : Prop) : BoolIf (.returned (.bool false)) P := ⟨false, rfl, fun h => by cases h⟩
theorem boolIf_yes {P : Prop} (h : P) : BoolIf (.returned (.bool true)) P := ⟨true, rfl, fun _ => h⟩
set_option maxHeartbeats 2000000 in
theorem sameInts_any {w : World} {lo1 lo2 : Nat} {v1 v2 : Value} {L M : List Wt} (h1 : w.ownsRow lo1 3 1 v1 L.length (L.map fun y => .int .i64 y.num)) (h2 : w.ownsRow lo2 3 1 v2 M.length (M.map fun y => .int .i64 y.num)) (hL : L.length ≤ 1000) (hM : M.length ≤ 1000) :
    Calls Tryz.prog 87 #[v1, v2] w fun e w' => BoolIf e (L.map (·.num) = M.map (·.num)) ∧ Chg (fun _ => False) w w' := by
  obtain ⟨p1, c1, rfl⟩ := row_any h1
  obtain ⟨p2, c2, rfl⟩ := row_any h2
  by_cases hlm : L.length = M.length
  · rw [← hlm] at h2 ⊢
    have HLM : Hid (L.length = M.length) := hlm
    clear hlm hM
    go_enter Tryz.func87, Tryz.ntmps87
    go_wp2_with fail
    go_loopw [5] (fun si wr => ∃ (j : Nat), si = .int .i64 j ∧ j ≤ L.length ∧ Hid ((L.take j).map (·.num) = (M.take j).map (·.num)) ∧ Chg (fun _ => False) w wr) (fun si _ => L.length - (intOf si).toNat)
    case atStart => exact ⟨0, rfl, by omega, (show _ = _ by simp), Chg.refl _ _⟩
    case round =>
      obtain ⟨j, rfl, hj, hin, hc⟩ := hrel
      by_cases hjl : j < L.length
      · obtain ⟨x, hx⟩ : ∃ x, L[j]? = some x := ⟨_, List.getElem?_eq_getElem hjl⟩
        obtain ⟨y, hy⟩ : ∃ y, M[j]? = some y := ⟨_, List.getElem?_eq_getElem (by rw [← HLM.out]; omega)⟩
        have hn : (L.map fun y => Value.int .i64 y.num)[j]? = some (.int .i64 x.num) := by simp [hx]
        have hm : (M.map fun y => Value.int .i64 y.num)[j]? = some (.int .i64 y.num) := by simp [hy]
        obtain ⟨g1, cap1, hv1, _, _, hc1⟩ := row_pos h1 (by omega)
        obtain ⟨g2, cap2, hv2, _, _, hc2⟩ := row_pos h2 (by omega)
        simp only [Value.slice.injEq] at hv1 hv2
        obtain ⟨rfl, _, rfl⟩ := hv1
        obtain ⟨rfl, _, rfl⟩ := hv2
        have p1 := hc.cellAt (hc1 _ _ hn) id
        have p2 := hc.cellAt (hc2 _ _ hm) id
        have hjl' : (j : Int) < (L.length : Int) := by omega
        clear hc1 hc2
        by_cases hxy : x.num = y.num
        · have hin' : Hid ((L.take (j + 1)).map (·.num) = (M.take (j + 1)).map (·.num)) := nums_next hin.out hx hy hxy
          rw [← hxy] at p2
          clear hxy
          go_wp2_with fail
          go_quiet (fail)
          go_wp2_with fail
          go_roundw
          case rel => exact ⟨j + 1, by go_num, by omega, hin', hc.trans (((Quiet.refl _).drewN _).chg _) (fun _ _ h => h)⟩
          case measure => simp [intOf]; omega
        · have hxy' : (x.num == y.num) = false := by simpa using hxy
          go_wp2_with fail
          go_quiet (fail)
          go_wp2_with fail
          go_ret
          exact ⟨boolIf_no _, hc.trans (((Quiet.refl _).drewN _).chg _) (fun _ _ h => h)⟩
      · have hjl' : ¬ (j : Int) < (L.length : Int) := by omega
        have hin' : Hid (L.map (·.num) = M.map (·.num)) := by
          have := hin.out
          rwa [List.take_of_length_le (by omega), List.take_of_length_le (by rw [← HLM.out]; omega)] at this
        go_wp2_with fail
        go_ret
        exact ⟨boolIf_yes hin'.out, hc⟩
  · have hlm' : ((L.length : Int) == (M.length : Int)) = false := by simp; omega
    go_enter Tryz.func87, Tryz.ntmps87
    go_wp2_with fail
    go_ret
    exact ⟨boolIf_no _, Chg.refl _ _⟩
theorem tl_loop (a : ByteArray) : ∀ (m i : Nat) (r : List UInt8), a.size - i = m → ByteArray.toList.loop a i r = r.reverse ++ a.data.toList.drop i := by
  intro m
  induction m with
  | zero =>
    intro i r h
    rw [ByteArray.toList.loop]
    split
    · omega
    · rw [List.drop_eq_nil_of_le (by rw [Array.length_toList]; show a.size ≤ i; omega)]; simp
  | succ m ih =>
    intro i r h
    rw [ByteArray.toList.loop]
    have hi : i < a.size := by omega
    rw [if_pos hi, ih _ _ (by omega)]
    rw [List.reverse_cons, List.append_assoc]
    congr 1
    rw [List.drop_eq_getElem_cons (i := i) (by rw [Array.length_toList]; exact hi)]
    simp
    show a.get! i = _
    unfold ByteArray.get!
    simp [getElem!_pos, hi]
theorem tl_inj {a b : ByteArray} (h : a.toList = b.toList) : a = b := by
  have e : ∀ c : ByteArray, c.toList = c.data.toList := fun c => by
    unfold ByteArray.toList
    rw [tl_loop c _ 0 [] rfl]
    simp
  rw [e a, e b] at h
  obtain ⟨x⟩ := a
  obtain ⟨y⟩ := b
  exact congrArg _ (Array.ext' h)
theorem keyDiff {x y : Ky} (h : x ≠ y) (W : World) : (binOp .neq 87 (.agg #[.string x.name, .int .i64 x.count, .int .i64 x.fold, .int .i64 x.held]) (.agg #[.string y.name, .int .i64 y.count, .int .i64 y.fold, .int .i64 y.held])).run Tryz.prog W = .ok (.bool true) W := by
  obtain ⟨a, b, c, d⟩ := x
  obtain ⟨e, f, g, i⟩ := y
  simp [go_sem]
  exact fun h1 h2 h3 h4 => h (by rw [tl_inj h1, h2, h3, h4])
structure Looks (s1 s2 : St) : Prop where
  lanes : s1.lanes.length = s2.lanes.length
  lane : ∀ (i : Nat) (l1 l2 : Ln), s1.lanes[i]? = some l1 → s2.lanes[i]? = some l2 → l1.epoch = l2.epoch ∧ l1.base = l2.base ∧ l1.ws.map (·.num) = l2.ws.map (·.num)
  keys : s1.keys = s2.keys
end Go.Proofs.YthedkdbgfdjlkaaGreatDoor

namespace Go.Proofs.YthedkdbgfdjlkaaGreatDoor
set_option linter.unusedVariables false
set_option linter.unusedSimpArgs false
open Go.RowKit Go.Lib
theorem ws_same : ∀ {a b : List Wt}, (a.Pairwise fun x y => x.num < y.num) → (b.Pairwise fun x y => x.num < y.num) → a.map (·.num) = b.map (·.num) → (∀ x ∈ a, x ∈ b) → a = b
  | [], [], _, _, _, _ => rfl
  | [], _ :: _, _, _, h, _ => by simp at h
  | _ :: _, [], _, _, h, _ => by simp at h
  | x :: a, y :: b, ha, hb, h, hs => by
    rw [List.pairwise_cons] at ha hb
    simp only [List.map_cons, List.cons.injEq] at h
    obtain ⟨h1, h2⟩ := h
    have hxy : x = y := by
      rcases List.mem_cons.1 (hs x (by simp)) with e | e
      · exact e
      · have := hb.1 x e; omega
    subst hxy
    rw [ws_same ha.2 hb.2 h2 (fun z hz => by
      rcases List.mem_cons.1 (hs z (by simp [hz])) with e | e
      · have := ha.1 z hz; rw [e] at this; omega
      · exact e)]
theorem st_alike {E1 B1 E2 B2 : Nat → Int} {Q1 Q2 : Nat → List Rec} {T1 T2 : List Rec} {H1 H2 : List Hd} {s1 s2 : St} (h1 : RTie E1 B1 Q1 T1 H1 s1) (h2 : RTie E2 B2 Q2 T2 H2 s2) (hl : Looks s1 s2) (hq : ∀ i, i < 4 → ∀ x ∈ Q1 i, x ∈ Q2 i) : s1 = s2 := by
  have hL : s1.lanes = s2.lanes := by
    apply List.ext_getElem?
    intro i
    by_cases hi : i < 4
    · obtain ⟨l1, a1, _, _, p1, u1, _⟩ := h1.lane i hi
      obtain ⟨l2, a2, _, _, p2, u2, _⟩ := h2.lane i hi
      obtain ⟨e1, e2, e3⟩ := hl.lane i l1 l2 a1 a2
      have e4 : l1.ws = l2.ws := ws_same u1 u2 e3 (fun y hy => by
        obtain ⟨x, hx, ex⟩ := List.mem_map.1 (p1.mem_iff.2 hy)
        exact p2.mem_iff.1 (List.mem_map.2 ⟨x, hq i hi x hx, ex⟩))
      rw [a1, a2]
      obtain ⟨_, _, _⟩ := l1
      obtain ⟨_, _, _⟩ := l2
      simp only at e1 e2 e4
      rw [e1, e2, e4]
    · rw [List.getElem?_eq_none (by rw [h1.four]; omega), List.getElem?_eq_none (by rw [h2.four]; omega)]
  have hK := hl.keys
  obtain ⟨_, _⟩ := s1
  obtain ⟨_, _⟩ := s2
  simp only at hL hK
  rw [hL, hK]
theorem recSame (x : Rec) (W : World) : (binOp .eql 53 (.agg #[.int .i64 x.session, .int .i64 x.epoch, .int .i64 x.number, .string x.key, .int .i64 x.value]) (.agg #[.int .i64 x.session, .int .i64 x.epoch, .int .i64 x.number, .string x.key, .int .i64 x.value])).run Tryz.prog W = .ok (.bool true) W := by
  simp [go_sem]
theorem recDiff {x y : Rec} (h : x ≠ y) (W : World) : (binOp .eql 53 (.agg #[.int .i64 x.session, .int .i64 x.epoch, .int .i64 x.number, .string x.key, .int .i64 x.value]) (.agg #[.int .i64 y.session, .int .i64 y.epoch, .int .i64 y.number, .string y.key, .int .i64 y.value])).run Tryz.prog W = .ok (.bool false) W := by
  obtain ⟨a, b, c, d, e⟩ := x
  obtain ⟨f, g, i, j, k⟩ := y
  simp [go_sem]
  exact fun h1 h2 h3 h4 h5 => h (by rw [h1, h2, h3, tl_inj h4, h5])
structure St.small (s : St) : Prop where
  lanes : s.lanes.length ≤ 4
  keys : s.keys.length ≤ 4
  ws : ∀ l ∈ s.lanes, l.ws.length ≤ 4
end Go.Proofs.YthedkdbgfdjlkaaGreatDoor

namespace Go.Proofs.YthedkdbgfdjlkaaGreatDoor
set_option linter.unusedVariables false
set_option linter.unusedSimpArgs false
open Go.RowKit
set_option maxRecDepth 100000 in
set_option maxHeartbeats 4000000 in
theorem lsameState_any {w : World} {lo1 lo2 : Nat} {vs1 vk1 vs2 vk2 : Value} {s1 s2 : St} (h1 : StateAt w lo1 vs1 vk1 s1) (h2 : StateAt w lo2 vs2 vk2 s2) (hs1 : s1.small) (hs2 : s2.small) :
    Calls Tryz.prog 49 #[.agg #[vs1, vk1], .agg #[vs2, vk2]] w fun e w' => BoolIf e (Looks s1 s2) ∧ Chg (fun _ => False) w w' := by
  obtain ⟨us1, hu1, r1, q1⟩ := h1.sess
  obtain ⟨us2, hu2, r2, q2⟩ := h2.sess
  have k1 := h1.keys
  have k2 := h2.keys
  obtain ⟨ps1, cs1, rfl⟩ := row_any r1
  obtain ⟨ps2, cs2, rfl⟩ := row_any r2
  obtain ⟨pk1, ck1, rfl⟩ := row_any k1
  obtain ⟨pk2, ck2, rfl⟩ := row_any k2
  clear h1 h2
  have b1 := hs1.lanes
  have b2 := hs2.lanes
  have b3 := hs1.keys
  have b4 := hs2.keys
  have no : ∀ {P : Prop}, false = true → P := fun h => by cases h
  by_cases hln : s1.lanes.length = s2.lanes.length
  · by_cases hkn : s1.keys.length = s2.keys.length
    · rw [← hln] at r2 ⊢
      rw [← hkn] at k2 ⊢
      have HLN : Hid (s1.lanes.length = s2.lanes.length) := hln
      have HKN : Hid (s1.keys.length = s2.keys.length) := hkn
      clear hln hkn b2 b4
      obtain ⟨W0, hW0⟩ : ∃ W0, W0 = (w.alloc (Obj.cells #[.slice ps1 s1.lanes.length cs1, .slice pk1 s1.keys.length ck1] 46)).alloc (Obj.cells #[.slice ps2 s1.lanes.length cs2, .slice pk2 s1.keys.length ck2] 46) := ⟨_, rfl⟩
      have c0 : Chg (fun _ => False) w W0 := by rw [hW0]; exact ((Chg.refl _ w).alloc _).alloc _
      have a0 : W0.cell? ⟨w.heap.size, 0, none⟩ = some (.slice ps1 s1.lanes.length cs1) := by rw [hW0]; exact ((Chg.refl (fun _ => False) _).alloc _).cellAt (World.cell?_alloc_at _ _ _ _ rfl) id
      have a1 : W0.cell? ⟨w.heap.size, 1, none⟩ = some (.slice pk1 s1.keys.length ck1) := by rw [hW0]; exact ((Chg.refl (fun _ => False) _).alloc _).cellAt (World.cell?_alloc_at _ _ _ _ rfl) id
      have b0 : W0.cell? ⟨w.heap.size + 1, 0, none⟩ = some (.slice ps2 s1.lanes.length cs2) := by rw [hW0]; exact World.cell?_alloc_at _ _ _ _ (by simp)
      have b1' : W0.cell? ⟨w.heap.size + 1, 1, none⟩ = some (.slice pk2 s1.keys.length ck2) := by rw [hW0]; exact World.cell?_alloc_at _ _ _ _ (by simp)
      have HW0 : Hid (W0 = (w.alloc (Obj.cells #[.slice ps1 s1.lanes.length cs1, .slice pk1 s1.keys.length ck1] 46)).alloc (Obj.cells #[.slice ps2 s1.lanes.length cs2, .slice pk2 s1.keys.length ck2] 46)) := hW0
      have hneq := keyNeq
      clear hW0
      go_enter Tryz.func49, Tryz.ntmps49
      go_wp2_with fail
      go_loopw [5, 6, 7, 8] (fun si _ _ _ wr => ∃ (k : Nat), si = .int .i64 k ∧ k ≤ s1.lanes.length ∧ Hid (∀ (i : Nat) (l1 l2 : Ln), i < k → s1.lanes[i]? = some l1 → s2.lanes[i]? = some l2 → l1.epoch = l2.epoch ∧ l1.base = l2.base ∧ l1.ws.map (·.num) = l2.ws.map (·.num)) ∧ Chg (fun _ => False) W0 wr) (fun si _ _ _ _ => s1.lanes.length - (intOf si).toNat)
      case atStart => exact ⟨0, rfl, by omega, (show ∀ (i : Nat) (l1 l2 : Ln), i < 0 → s1.lanes[i]? = some l1 → s2.lanes[i]? = some l2 → l1.epoch = l2.epoch ∧ l1.base = l2.base ∧ l1.ws.map (·.num) = l2.ws.map (·.num) from fun i _ _ h => absurd h (Nat.not_lt_zero _)), by rw [HW0.out]; exact Chg.refl _ _⟩
      case round =>
        obtain ⟨k, rfl, hk1, hin, hc⟩ := hrel
        have d0 := hc.cellAt a0 id
        have d1 := hc.cellAt a1 id
        have e0 := hc.cellAt b0 id
        have e1 := hc.cellAt b1' id
        have hc' : Chg (fun _ => False) w wr := c0.trans hc (fun _ _ h => h)
        by_cases hkl : k < s1.lanes.length
        · obtain ⟨l, hll⟩ : ∃ l, s1.lanes[k]? = some l := ⟨_, List.getElem?_eq_getElem hkl⟩
          obtain ⟨m, hmm⟩ : ∃ m, s2.lanes[k]? = some m := ⟨_, List.getElem?_eq_getElem (by have := HLN.out; omega)⟩
          obtain ⟨u1, hh1⟩ : ∃ u, us1[k]? = some u := ⟨_, List.getElem?_eq_getElem (by omega)⟩
          obtain ⟨u2, hh2⟩ : ∃ u, us2[k]? = some u := ⟨_, List.getElem?_eq_getElem (by have := HLN.out; omega)⟩
          have x1 := sessCells_at _ _ _ _ _ hll hh1
          have x2 := sessCells_at _ _ _ _ _ hmm hh2
          have t1 := q1 k l u1 hll hh1
          have t2 := q2 k m u2 hmm hh2
          obtain ⟨pu1, cu1, rfl⟩ := row_any t1
          obtain ⟨pu2, cu2, rfl⟩ := row_any t2
          have hlw := hs1.ws l (List.mem_of_getElem? hll)
          have hmw := hs2.ws m (List.mem_of_getElem? hmm)
          obtain ⟨g1, cap1, hv1, _, _, hcell1⟩ := row_pos r1 (by omega)
          obtain ⟨g2, cap2, hv2, _, _, hcell2⟩ := row_pos r2 (by omega)
          simp only [Value.slice.injEq] at hv1 hv2
          obtain ⟨rfl, _, rfl⟩ := hv1
          obtain ⟨rfl, _, rfl⟩ := hv2
          have m0 := hc'.cellAt (hcell1 _ _ x1.1) id
          have m1 := hc'.cellAt (hcell1 _ _ x1.2.1) id
          have m2 := hc'.cellAt (hcell1 _ _ x1.2.2) id
          have n0 := hc'.cellAt (hcell2 _ _ x2.1) id
          have n1 := hc'.cellAt (hcell2 _ _ x2.2.1) id
          have n2 := hc'.cellAt (hcell2 _ _ x2.2.2) id
          have hkl' : (k : Int) < (s1.lanes.length : Int) := by omega
          clear hcell1 hcell2 x1 x2
          have ee : ∀ ob, (wr.alloc ob).cell? ⟨w.heap.size + 1, 0, none⟩ = some (.slice (some ⟨g2, 0, none⟩) s1.lanes.length cs2) := fun ob => ((Chg.refl (fun _ => False) wr).alloc ob).cellAt e0 id
          have nn0 : ∀ ob, (wr.alloc ob).cell? ⟨g2, k * 3, none⟩ = some (.int .i64 m.epoch) := fun ob => ((Chg.refl (fun _ => False) wr).alloc ob).cellAt n0 id
          have nn1 : ∀ ob, (wr.alloc ob).cell? ⟨g2, k * 3 + 1, none⟩ = some (.int .i64 m.base) := fun ob => ((Chg.refl (fun _ => False) wr).alloc ob).cellAt n1 id
          have nn2 : ∀ ob, (wr.alloc ob).cell? ⟨g2, k * 3 + 2, none⟩ = some (.slice pu2 m.ws.length cu2) := fun ob => ((Chg.refl (fun _ => False) wr).alloc ob).cellAt n2 id
          obtain ⟨W2, hW2⟩ : ∃ W2, W2 = (wr.alloc (Obj.cells #[.int .i64 l.epoch, .int .i64 l.base, .slice pu1 l.ws.length cu1] 121)).alloc (Obj.cells #[.int .i64 m.epoch, .int .i64 m.base, .slice pu2 m.ws.length cu2] 121) := ⟨_, rfl⟩
          have c2 : Chg (fun _ => False) wr W2 := by rw [hW2]; exact ((Chg.refl _ wr).alloc _).alloc _
          have hcw2 : Chg (fun _ => False) w W2 := hc'.trans c2 (fun _ _ h => h)
          have hsi := sameInts_any (L := l.ws) (M := m.ws) (hcw2.row' t1 (fun _ _ h => h)) (hcw2.row' t2 (fun _ _ h => h)) (by omega) (by omega)
          have y0 : W2.cell? ⟨wr.heap.size, 0, none⟩ = some (.int .i64 l.epoch) := by rw [hW2]; exact ((Chg.refl (fun _ => False) _).alloc _).cellAt (World.cell?_alloc_at _ _ _ _ rfl) id
          have y1 : W2.cell? ⟨wr.heap.size, 1, none⟩ = some (.int .i64 l.base) := by rw [hW2]; exact ((Chg.refl (fun _ => False) _).alloc _).cellAt (World.cell?_alloc_at _ _ _ _ rfl) id
          have z0 : W2.cell? ⟨wr.heap.size + 1, 0, none⟩ = some (.int .i64 m.epoch) := by rw [hW2]; exact World.cell?_alloc_at _ _ _ _ (by simp)
          have z1 : W2.cell? ⟨wr.heap.size + 1, 1, none⟩ = some (.int .i64 m.base) := by rw [hW2]; exact World.cell?_alloc_at _ _ _ _ (by simp)
          go_wp2_with fail
          rw [← hW2]
          refine hsi.mono ?_
          rintro _ w3 ⟨⟨t, rfl, ht⟩, c3⟩
          clear hsi hW2
          have y0' := c3.cellAt y0 id
          have y1' := c3.cellAt y1 id
          have z0' := c3.cellAt z0 id
          have z1' := c3.cellAt z1 id
          have cw3 : Chg (fun _ => False) w w3 := hcw2.trans c3 (fun _ _ h => h)
          cases t with
          | false =>
            go_wp2_with fail
            go_ret
            exact ⟨boolIf_no _, cw3⟩
          | true =>
            by_cases he : l.epoch = m.epoch
            · have HE : Hid (l.epoch = m.epoch) := he
              rw [← he] at z0'
              clear he
              by_cases hb : l.base = m.base
              · have HB : Hid (l.base = m.base) := hb
                rw [← hb] at z1'
                clear hb
                go_wp2_with fail
                go_roundw
                case measure => simp [intOf]; omega
                refine ⟨k + 1, by go_num, by omega, (show ∀ (i : Nat) (l1 l2 : Ln), i < k + 1 → s1.lanes[i]? = some l1 → s2.lanes[i]? = some l2 → l1.epoch = l2.epoch ∧ l1.base = l2.base ∧ l1.ws.map (·.num) = l2.ws.map (·.num) from fun i l1 l2 hi h1 h2 => ?_), (hc.trans c2 (fun _ _ h => h)).trans c3 (fun _ _ h => h)⟩
                by_cases hik : i = k
                · subst hik
                  rw [hll] at h1
                  rw [hmm] at h2
                  cases h1
                  cases h2
                  exact ⟨HE.out, HB.out, ht (by simp)⟩
                · exact hin.out i l1 l2 (by omega) h1 h2
              · have hb' : (l.base == m.base) = false := by simpa using hb
                go_wp2_with fail
                go_ret
                exact ⟨boolIf_no _, cw3⟩
            · have he' : (l.epoch == m.epoch) = false := by simpa using he
              go_wp2_with fail
              go_ret
              exact ⟨boolIf_no _, cw3⟩
        · have hkl' : ¬ (k : Int) < (s1.lanes.length : Int) := by omega
          go_wp2_with fail
          go_loopw [9] (fun sj w2 => ∃ (j : Nat), sj = .int .i64 j ∧ j ≤ s1.keys.length ∧ Hid (s1.keys.take j = s2.keys.take j) ∧ Chg (fun _ => False) wr w2) (fun sj _ => s1.keys.length - (intOf sj).toNat)
          case atStart => exact ⟨0, rfl, by omega, (show _ = _ by simp), Chg.refl _ _⟩
          case round =>
            obtain ⟨j, rfl, hj, hjn, hcj⟩ := hrel
            have v1 := hcj.cellAt d1 id
            have w1 := hcj.cellAt e1 id
            have hcc : Chg (fun _ => False) w wr := hc'.trans hcj (fun _ _ h => h)
            by_cases hjl : j < s1.keys.length
            · obtain ⟨x, hx⟩ : ∃ x, s1.keys[j]? = some x := ⟨_, List.getElem?_eq_getElem hjl⟩
              obtain ⟨y, hy⟩ : ∃ y, s2.keys[j]? = some y := ⟨_, List.getElem?_eq_getElem (by have := HKN.out; omega)⟩
              have cx := keyCells_at s1.keys j x hx
              have cy := keyCells_at s2.keys j y hy
              obtain ⟨gu1, capu1, hvu1, _, _, hcu1⟩ := row_pos k1 (by omega)
              obtain ⟨gu2, capu2, hvu2, _, _, hcu2⟩ := row_pos k2 (by omega)
              simp only [Value.slice.injEq] at hvu1 hvu2
              obtain ⟨rfl, _, rfl⟩ := hvu1
              obtain ⟨rfl, _, rfl⟩ := hvu2
              have p0 := hcc.cellAt (hcu1 _ _ cx.1) id
              have p1 := hcc.cellAt (hcu1 _ _ cx.2.1) id
              have p2 := hcc.cellAt (hcu1 _ _ cx.2.2.1) id
              have p3 := hcc.cellAt (hcu1 _ _ cx.2.2.2) id
              have o0 := hcc.cellAt (hcu2 _ _ cy.1) id
              have o1 := hcc.cellAt (hcu2 _ _ cy.2.1) id
              have o2 := hcc.cellAt (hcu2 _ _ cy.2.2.1) id
              have o3 := hcc.cellAt (hcu2 _ _ cy.2.2.2) id
              have hjl' : (j : Int) < (s1.keys.length : Int) := by omega
              clear hcu1 hcu2 cx cy
              by_cases hxy : x = y
              · subst hxy
                have hjn' : Hid (s1.keys.take (j + 1) = s2.keys.take (j + 1)) := by
                  show _ = _
                  rw [List.take_add_one, List.take_add_one, hx, hy, hjn.out]
                go_wp2_with fail
                go_quiet (fail)
                go_wp2_with fail
                go_roundw
                case rel => exact ⟨j + 1, by go_num, by omega, hjn', hcj.trans (((Quiet.refl _).drewN _).chg _) (fun _ _ h => h)⟩
                case measure => simp [intOf]; omega
              · have hdf := keyDiff hxy
                clear hneq
                go_wp2_with fail
                go_quiet (fail)
                go_wp2_with fail
                go_ret
                exact ⟨boolIf_no _, hcc.trans (((Quiet.refl _).drewN _).chg _) (fun _ _ h => h)⟩
            · have hjl' : ¬ (j : Int) < (s1.keys.length : Int) := by omega
              have hks : s1.keys = s2.keys := by
                have := hjn.out
                rwa [List.take_of_length_le (by omega), List.take_of_length_le (by have := HKN.out; omega)] at this
              have HL : Hid (Looks s1 s2) := ⟨HLN.out, fun i l1 l2 h1 h2 => hin.out i l1 l2 (by have := (List.getElem?_eq_some_iff.1 h1).1; omega) h1 h2, hks⟩
              clear hks
              go_wp2_with fail
              go_ret
              exact ⟨boolIf_yes HL.out, hcc⟩
    · rw [← hln] at r2 ⊢
      clear hln
      have hkn' : ((s1.keys.length : Int) == (s2.keys.length : Int)) = false := by simp; omega
      go_enter Tryz.func49, Tryz.ntmps49
      go_wp2_with fail
      go_ret
      exact ⟨boolIf_no _, ((Chg.refl _ w).alloc _).alloc _⟩
  · have hln' : ((s1.lanes.length : Int) == (s2.lanes.length : Int)) = false := by simp; omega
    go_enter Tryz.func49, Tryz.ntmps49
    go_wp2_with fail
    go_ret
    exact ⟨boolIf_no _, ((Chg.refl _ w).alloc _).alloc _⟩
end Go.Proofs.YthedkdbgfdjlkaaGreatDoor

namespace Go.Proofs.YthedkdbgfdjlkaaGreatDoor
set_option linter.unusedVariables false
set_option linter.unusedSimpArgs false
open Go.RowKit Go.Lib
def AllSome (o1 o2 : Option St) : Prop := ∃ s, o1 = some s ∧ o2 = some s
def InIf (t : Bool) (x : Rec) (l : List Rec) : Prop := t = true → x ∈ l
theorem InIf.no (x : Rec) (l : List Rec) : InIf false x l := fun h => by cases h
set_option maxRecDepth 100000 in
set_option maxHeartbeats 4000000 in
theorem alike_any {N : Nat} {w : World} {a b : Addr} {o1 o2 : Option St} {F G : Nat → Prop} (ha : RefRel N w a o1 F) (hb : RefRel N w b o2 G) (hN : N ≤ 1000000000) (hs1 : (state? o1).small) (hs2 : (state? o2).small) :
    Calls Tryz.prog 58 #[.pointer (some a), .pointer (some b)] w fun e w' => BoolIf e (AllSome o1 o2) ∧ Chg (fun _ => False) w w' := by
  have hst1 := ref_state ha hN
  have hb0 := hb
  obtain ⟨b1, rfl, _, _, E1, B1, V1, vt1, vh1, Q1, T1, H1, r1, _, t1, _⟩ := ha
  obtain ⟨b2, rfl, _, _, E2, B2, V2, vt2, vh2, Q2, T2, H2, r2, _, t2, _⟩ := hb
  have no : ∀ {P : Prop}, false = true → P := fun h => by cases h
  go_enter Tryz.func58, Tryz.ntmps58
  go_wp2_with fail
  refine hst1.mono ?_
  rintro _ w1 ⟨vs1, vk1, rfl, hS1, _, c1⟩
  obtain ⟨ps1, cs1, rfl⟩ := row_any hS1.sess.choose_spec.2.1
  obtain ⟨pk1, ck1, rfl⟩ := row_any hS1.keys
  obtain ⟨W1, hW1⟩ : ∃ W1, W1 = w1.alloc (Obj.cells #[.slice ps1 (state? o1).lanes.length cs1, .slice pk1 (state? o1).keys.length ck1] 46) := ⟨_, rfl⟩
  have d1 : Chg (fun _ => False) w1 W1 := by rw [hW1]; exact (Chg.refl _ w1).alloc _
  have cW1 : Chg (fun _ => False) w W1 := c1.trans d1 (fun _ _ h => h)
  have x0 : W1.cell? ⟨w1.heap.size, 0, none⟩ = some (.slice ps1 (state? o1).lanes.length cs1) := by rw [hW1]; exact World.cell?_alloc_at _ _ _ _ rfl
  have x1 : W1.cell? ⟨w1.heap.size, 1, none⟩ = some (.slice pk1 (state? o1).keys.length ck1) := by rw [hW1]; exact World.cell?_alloc_at _ _ _ _ rfl
  have hst2 := ref_state (ref_stable hb0 (fun q hq => cW1.block q (ref_lt hb0 hq) id)) hN
  clear hst1 hb0
  go_wp2_with fail
  rw [← hW1]
  refine hst2.mono ?_
  rintro _ w2 ⟨vs2, vk2, rfl, hS2, _, c2⟩
  obtain ⟨ps2, cs2, rfl⟩ := row_any hS2.sess.choose_spec.2.1
  obtain ⟨pk2, ck2, rfl⟩ := row_any hS2.keys
  obtain ⟨W2, hW2⟩ : ∃ W2, W2 = w2.alloc (Obj.cells #[.slice ps2 (state? o2).lanes.length cs2, .slice pk2 (state? o2).keys.length ck2] 46) := ⟨_, rfl⟩
  have d2 : Chg (fun _ => False) w2 W2 := by rw [hW2]; exact (Chg.refl _ w2).alloc _
  have e12 : Chg (fun _ => False) w1 W2 := (d1.trans c2 (fun _ _ h => h)).trans d2 (fun _ _ h => h)
  have hal : ∀ (p : Addr) (v : Value), w2.cell? p = some v → ∀ ob, (w2.alloc ob).cell? p = some v := fun p v hv ob => (World.cell?_alloc_lt w2 ob p (World.block_lt_of_cell? _ _ hv)).trans hv
  have y0 := hal _ _ (c2.cellAt x0 id)
  have y1 := hal _ _ (c2.cellAt x1 id)
  have hsm := lsameState_any (hS1.kept e12 (fun _ f => f.elim)) (hS2.kept d2 (fun _ f => f.elim)) hs1 hs2
  have cW2 : Chg (fun _ => False) w W2 := c1.trans e12 (fun _ _ h => h)
  clear hst2 hW1 hS1 hS2 x0 x1
  go_wp2_with fail
  rw [← hW2]
  refine hsm.mono ?_
  rintro _ w3 ⟨⟨t, rfl, ht⟩, c3⟩
  have cw : Chg (fun _ => False) w w3 := cW2.trans c3 (fun _ _ h => h)
  have cl1 := cw.cellAt r1.cl id
  have cl2 := cw.cellAt r2.cl id
  clear hsm hW2 y0 y1 hal d1 d2 e12 cW1 cW2 c1 c2 c3
  cases t with
  | false =>
    go_wp2_with fail
    go_ret
    exact ⟨boolIf_no _, cw⟩
  | true =>
    cases o1 with
    | none =>
      simp only [Option.isNone] at cl1
      go_wp2_with fail
      go_ret
      exact ⟨boolIf_no _, cw⟩
    | some s1 =>
      cases o2 with
      | none =>
        simp only [Option.isNone] at cl1 cl2
        go_wp2_with fail
        go_ret
        exact ⟨boolIf_no _, cw⟩
      | some s2 =>
        simp only [Option.isNone] at cl1 cl2
        have hlk : Hid (Looks s1 s2) := ht (by simp)
        have u1 := t1 s1 rfl
        have u2 := t2 s2 rfl
        clear ht t1 t2 hs1 hs2
        go_wp2_with fail
        go_loopw [10, 11, 12, 13] (fun si _ _ _ wr => ∃ (i : Nat), si = .int .i64 i ∧ i ≤ 4 ∧ Hid (∀ i', i' < i → ∀ x ∈ Q1 i', x ∈ Q2 i') ∧ Chg (fun _ => False) w wr) (fun si _ _ _ _ => 4 - (intOf si).toNat)
        case atStart => exact ⟨0, rfl, by omega, (show ∀ i', i' < 0 → ∀ x ∈ Q1 i', x ∈ Q2 i' from fun i' h => absurd h (Nat.not_lt_zero _)), cw⟩
        case round =>
          clear cw cl1 cl2
          obtain ⟨i, rfl, hi, hin, hc⟩ := hrel
          by_cases hi4 : i < 4
          · have hi4' : (i : Int) < 4 := by omega
            obtain ⟨pq1, cq1, hp1⟩ := row_any (r1.rows i hi4)
            obtain ⟨pq2, cq2, hp2⟩ := row_any (r2.rows i hi4)
            have hl1 := u1.short hi4
            have hl2 := u2.short hi4
            have HP1 : Hid (V1 i = .slice pq1 (Q1 i).length cq1) := hp1
            have HP2 : Hid (V2 i = .slice pq2 (Q2 i).length cq2) := hp2
            clear hp1 hp2
            go_wp2_with fail
            go_loopw [11, 12, 13] (fun sk _ _ wq => ∃ (k : Nat), sk = .int .i64 k ∧ k ≤ (Q1 i).length ∧ Hid (∀ x ∈ (Q1 i).take k, x ∈ Q2 i) ∧ Chg (fun _ => False) w wq) (fun sk _ _ _ => (Q1 i).length - (intOf sk).toNat)
            case atStart => exact ⟨0, rfl, by omega, (show ∀ x ∈ (Q1 i).take 0, x ∈ Q2 i by simp), hc⟩
            case round =>
              clear hc
              obtain ⟨k, rfl, hk, hkn, hc⟩ := hrel
              have hv1 := hc.cellAt (r1.qu i hi4) id
              rw [HP1.out] at hv1
              by_cases hkl : k < (Q1 i).length
              · have hkl' : (k : Int) < ((Q1 i).length : Int) := by omega
                obtain ⟨x, hx⟩ : ∃ x, (Q1 i)[k]? = some x := ⟨_, List.getElem?_eq_getElem hkl⟩
                have r1i := r1.rows i hi4
                rw [HP1.out] at r1i
                obtain ⟨g1, cap1, hvs1, _, _, hcell1⟩ := row_pos r1i (by omega)
                simp only [Value.slice.injEq] at hvs1
                obtain ⟨rfl, _, rfl⟩ := hvs1
                have cx := recCells_at _ k x hx
                have C0 := hcell1 _ _ cx.1
                have C1 := hcell1 _ _ cx.2.1
                have C2 := hcell1 _ _ cx.2.2.1
                have C3 := hcell1 _ _ cx.2.2.2.1
                have C4 := hcell1 _ _ cx.2.2.2.2
                clear hcell1 cx
                go_wp2_with fail
                go_loopw [12, 13] (fun st sj wj => ∃ (j : Nat) (t : Bool), st = .bool t ∧ sj = .int .i64 j ∧ j ≤ (Q2 i).length ∧ InIf t x (Q2 i) ∧ Chg (fun _ => False) w wj) (fun _ sj _ => (Q2 i).length - (intOf sj).toNat)
                case atStart => exact ⟨0, false, rfl, rfl, by omega, InIf.no _ _, hc⟩
                case round =>
                  clear hc hv1
                  obtain ⟨j, t, rfl, rfl, hj, htn, hc⟩ := hrel
                  have hv1 := hc.cellAt (r1.qu i hi4) id
                  have hv2 := hc.cellAt (r2.qu i hi4) id
                  rw [HP1.out] at hv1
                  rw [HP2.out] at hv2
                  by_cases hjl : j < (Q2 i).length
                  · have hjl' : (j : Int) < ((Q2 i).length : Int) := by omega
                    obtain ⟨y, hy⟩ : ∃ y, (Q2 i)[j]? = some y := ⟨_, List.getElem?_eq_getElem hjl⟩
                    have r2i := r2.rows i hi4
                    rw [HP2.out] at r2i
                    obtain ⟨g2, cap2, hvs2, _, _, hcell2⟩ := row_pos r2i (by omega)
                    simp only [Value.slice.injEq] at hvs2
                    obtain ⟨rfl, _, rfl⟩ := hvs2
                    have cy := recCells_at _ j y hy
                    have m0 := hc.cellAt C0 id
                    have m1 := hc.cellAt C1 id
                    have m2 := hc.cellAt C2 id
                    have m3 := hc.cellAt C3 id
                    have m4 := hc.cellAt C4 id
                    have n0 := hc.cellAt (hcell2 _ _ cy.1) id
                    have n1 := hc.cellAt (hcell2 _ _ cy.2.1) id
                    have n2 := hc.cellAt (hcell2 _ _ cy.2.2.1) id
                    have n3 := hc.cellAt (hcell2 _ _ cy.2.2.2.1) id
                    have n4 := hc.cellAt (hcell2 _ _ cy.2.2.2.2) id
                    clear hcell2 cy
                    cases t with
                    | true =>
                      go_wp2_with fail
                      go_quiet (fail)
                      go_wp2_with fail
                      go_roundw
                      case rel => exact ⟨j + 1, true, rfl, by go_num, by omega, htn, hc.trans (((Quiet.refl _).drewN _).chg _) (fun _ _ h => h)⟩
                      case measure => simp [intOf]; omega
                    | false =>
                      by_cases hxy : x = y
                      · subst hxy
                        have hsame := recSame x
                        have htn' : InIf true x (Q2 i) := fun _ => List.mem_of_getElem? hy
                        go_wp2_with fail
                        go_quiet (fail)
                        go_wp2_with fail
                        go_roundw
                        case rel => exact ⟨j + 1, true, rfl, by go_num, by omega, htn', hc.trans (((Quiet.refl _).drewN _).chg _) (fun _ _ h => h)⟩
                        case measure => simp [intOf]; omega
                      · have hdiff := recDiff hxy
                        go_wp2_with fail
                        go_quiet (fail)
                        go_wp2_with fail
                        go_roundw
                        case rel => exact ⟨j + 1, false, rfl, by go_num, by omega, htn, hc.trans (((Quiet.refl _).drewN _).chg _) (fun _ _ h => h)⟩
                        case measure => simp [intOf]; omega
                  · have hjl' : ¬ (j : Int) < ((Q2 i).length : Int) := by omega
                    cases t with
                    | false =>
                      go_wp2_with fail
                      go_ret
                      exact ⟨boolIf_no _, hc⟩
                    | true =>
                      have hkn' : Hid (∀ z ∈ (Q1 i).take (k + 1), z ∈ Q2 i) := by
                        show ∀ z ∈ (Q1 i).take (k + 1), z ∈ Q2 i
                        intro z hz
                        rw [List.take_add_one, hx] at hz
                        rcases List.mem_append.1 hz with hz | hz
                        · exact hkn.out z hz
                        · simp at hz
                          rw [hz]
                          exact htn rfl
                      go_wp2_with fail
                      go_roundw
                      case rel => exact ⟨k + 1, by go_num, by omega, hkn', hc⟩
                      case measure => simp [intOf]; omega
              · have hkl' : ¬ (k : Int) < ((Q1 i).length : Int) := by omega
                have hin' : Hid (∀ i', i' < i + 1 → ∀ x ∈ Q1 i', x ∈ Q2 i') := by
                  show ∀ i', i' < i + 1 → ∀ x ∈ Q1 i', x ∈ Q2 i'
                  intro i' h' x hx
                  by_cases e : i' = i
                  · subst e
                    exact hkn.out x (by rw [List.take_of_length_le (by omega)]; exact hx)
                  · exact hin.out i' (by omega) x hx
                go_wp2_with fail
                go_roundw
                case rel => exact ⟨i + 1, by go_num, by omega, hin', hc⟩
                case measure => simp [intOf]; omega
          · have hi4' : ¬ (i : Int) < 4 := by omega
            have HQ : Hid (AllSome (some s1) (some s2)) := ⟨s1, rfl, by rw [st_alike u1 u2 hlk.out (fun i' h' => hin.out i' (by omega))]⟩
            go_wp2_with fail
            go_ret
            exact ⟨boolIf_yes HQ.out, hc⟩
end Go.Proofs.YthedkdbgfdjlkaaGreatDoor

namespace Go.Proofs.YthedkdbgfdjlkaaGreatDoor
set_option linter.unusedVariables false
set_option linter.unusedSimpArgs false
open Go.RowKit Go.Lib
theorem Wd.cells {W0 w : World} {wb n N : Nat} {z : Nat → Nat} {pa ra : Nat → Addr} {st : Nat → Option St} {T : Nat → List UInt8} {FP FR : Nat → Nat → Prop} {B : Nat → Prop} {r : Nat → Value} {L : Nat → List Value} {gp cp gr cr : Nat} {K : KD} (h : Wd W0 w wb n N z pa ra st T FP FR B r L (.slice (some ⟨gp, 0, none⟩) n cp) (.slice (some ⟨gr, 0, none⟩) n cr) K) {i : Nat} (hi : i < n) : w.cell? ⟨gp, i, none⟩ = some (.pointer (some (pa i))) ∧ w.cell? ⟨gr, i, none⟩ = some (.pointer (some (ra i))) := by
  obtain ⟨gp', cp', gr', cr', e1, e2, h1, h2⟩ := h.at_k hi
  cases e1
  cases e2
  exact ⟨h1, h2⟩
theorem putAt_self {α : Type} (f : Nat → α) (k : Nat) : putAt f k (f k) = f := by
  funext i
  by_cases e : i = k
  · subst e; rw [putAt_at]
  · rw [putAt_ne _ _ e]
theorem relT_small' {T : List UInt8} {w : World} {a : Addr} {o : Option St} {F : Nat → Prop} (h : RelT T w a o F) : (state? o).small := ⟨(relT_small h).1, (relT_small h).2.1, (relT_small h).2.2⟩
theorem shr_both {T : Nat → List UInt8} {st : Nat → Option St} {k j : Nat} {s : St} (h1 : st k = some s) (h2 : st j = some s) : putAt (putAt T k (tapeShr (T k) (st k))) j (tapeShr (putAt T k (tapeShr (T k) (st k)) j) (st j)) k = encHead s ∧ putAt (putAt T k (tapeShr (T k) (st k))) j (tapeShr (putAt T k (tapeShr (T k) (st k)) j) (st j)) j = encHead s := by
  refine ⟨?_, by rw [putAt_at, h2]; rfl⟩
  by_cases e : k = j
  · subst e; rw [putAt_at, h2]; rfl
  · rw [putAt_ne _ _ e, putAt_at, h1]; rfl
set_option maxRecDepth 100000 in
set_option maxHeartbeats 4000000 in
theorem bytesOf_same {W0 w : World} {wb n N : Nat} (hx : Wx W0 w wb n N) (hN : N ≤ 10000000) {k : Nat} (hk : k < n) (o : OpD) (hf : o.fits) (hkd : o.kind = 10) :
    Calls Tryz.prog 28 #[.pointer (some ⟨wb, 0, none⟩), .int .i64 k, o.value] w fun e w' => e = .returned (.bool true) ∧ Wx W0 w' wb n (N + 1) := by
  obtain ⟨z, pa, ra, st, T, FP, FR, B, r, L, vp, vr, K, h⟩ := hx
  obtain ⟨kd, on, ⟨xs, xe, xn, xk, xv⟩, key, num⟩ := o
  have hnum := hf.num
  simp only at hkd hnum
  clear hf
  subst hkd
  obtain ⟨gp, cp, gr, cr, rfl, rfl, m1, m2⟩ := h.at_k hk
  have hn : n ≤ 10000000 := Nat.le_trans h.many hN
  have hk' : (k : Int) < (n : Int) := by omega
  obtain ⟨W1, hW1⟩ : ∃ W1, W1 = w.alloc (.cells #[.int .i64 10, .int .i64 on, .int .i64 xs, .int .i64 xe, .int .i64 xn, .string xk, .int .i64 xv, .string key, .int .i64 num] 82) := ⟨_, rfl⟩
  have c0 : Chg (fun _ => False) w W1 := by rw [hW1]; exact (Chg.refl _ w).alloc _
  have ho : ∀ j u, (OpD.cells ⟨10, on, ⟨xs, xe, xn, xk, xv⟩, key, num⟩)[j]? = some u → W1.cell? ⟨w.heap.size, j, none⟩ = some u := by rw [hW1]; exact opd_new w _
  have o0 := ho 0 _ rfl
  have o8 := ho 8 _ rfl
  have h0 := h.keep c0
  have hal : ∀ (p : Addr) (v : Value), w.cell? p = some v → ∀ ob, (w.alloc ob).cell? p = some v := fun p v hv ob => (World.cell?_alloc_lt w ob p (World.block_lt_of_cell? _ _ hv)).trans hv
  have a0 := hal _ _ h.c0
  have a1 := hal _ _ h.c1
  have n1 := hal _ _ m1
  have n2 := hal _ _ m2
  have hnt := ref_nothing (h0.relR k hk)
  have hpk : ∀ (w : World), Calls Tryz.prog 26 #[.int .i64 num, .int .i64 n] w fun e w' => e = .returned (.int .i64 (pickI num n)) ∧ w' = w := fun w => lpick_any num n w hnum (by omega) (by omega)
  obtain ⟨hr0, hr1⟩ := pickI_range (c := num) (n := (n : Int)) (by omega)
  obtain ⟨j, hj0⟩ : ∃ j : Nat, pickI num n = (j : Int) := ⟨(pickI num n).toNat, by omega⟩
  rw [hj0] at hr0 hr1 hpk
  have hj : j < n := by omega
  have hj' : (j : Int) < (n : Int) := hr1
  clear hj0
  unfold OpD.value
  simp only
  go_enter Tryz.func28, Tryz.ntmps28
  go_wp2_with (go_at_call 56; rw [← hW1]; refine hnt.mono ?_; rintro _ w1 ⟨rfl, c1⟩; have s0 := c1.cellAt o0 id; have s8 := c1.cellAt o8 id; have h1 := h0.keep c1; have y0 := h1.c0)
  clear hW1 hnt a0 a1 n1 n2 hal
  go_quiet (first | (go_at_call 26; refine Calls.quiet_of_same (hpk _)))
  have c2 : Chg (fun _ => False) w1 (w1.drewN nq) := (Chg.refl _ w1).drewN' nq
  generalize w1.drewN nq = w2 at c2 ⊢
  have h2 := h1.keep c2
  have hsh := relT_shrink (h2.relP k hk)
  clear s0 s8 y0
  go_wp2_with fail
  refine hsh.mono ?_
  rintro _ w3 ⟨F3, rfl, hP3, hF3, c3⟩
  obtain ⟨z3, h3⟩ := h2.call hk c3 hP3 hF3 (shr_len (h2.relP k hk) (h2.lenT k hk)) (shr_tel (h2.relP k hk))
  have q0 := h3.c0
  have q2 := (h3.cells hj).1
  have hsh2 := relT_shrink (h3.relP j hj)
  clear hsh
  go_wp2_with fail
  refine hsh2.mono ?_
  rintro _ w4 ⟨F4, rfl, hP4, hF4, c4⟩
  obtain ⟨z4, h4⟩ := h3.call hj c4 hP4 hF4 (shr_len (h3.relP j hj) (h3.lenT j hj)) (shr_tel (h3.relP j hj))
  have HT : Hid (∀ s, st k = some s → st j = some s → putAt (putAt T k (tapeShr (T k) (st k))) j (tapeShr (putAt T k (tapeShr (T k) (st k)) j) (st j)) k = encHead s ∧ putAt (putAt T k (tapeShr (T k) (st k))) j (tapeShr (putAt T k (tapeShr (T k) (st k)) j) (st j)) j = encHead s) := fun s e1 e2 => shr_both e1 e2
  clear hsh2 q0 q2 hP4 hF4
  generalize putAt (putAt T k (tapeShr (T k) (st k))) j (tapeShr (putAt T k (tapeShr (T k) (st k)) j) (st j)) = T4 at h4 HT
  generalize putAt (putAt FP k F3) j F4 = FP4 at h4
  have r1 := h4.c1
  have r2 := (h4.cells hj).2
  have hnt2 := ref_nothing (h4.relR j hj)
  go_wp2_with fail
  refine hnt2.mono ?_
  rintro _ w5 ⟨rfl, c5⟩
  have h5 := h4.keep c5
  have hby := relT_bytes (h5.relP k hk)
  obtain ⟨A1, hA1⟩ : ∃ A1, A1 = (⟨(bytes? (T4 k) (st k)).toArray⟩ : ByteArray) := ⟨_, rfl⟩
  rw [← hA1] at hby
  have HA1 : Hid (A1 = (⟨(bytes? (T4 k) (st k)).toArray⟩ : ByteArray)) := hA1
  clear hnt2 r1 r2 hA1
  go_wp2_with fail
  refine hby.mono ?_
  rintro _ w6 ⟨rfl, hP6, c6⟩
  obtain ⟨z6, h6⟩ := h5.call hk c6 hP6 (fun g hg => .inl hg) (h5.lenT k hk) (h5.tel k hk)
  rw [putAt_self, putAt_self] at h6
  have u0 := h6.c0
  have u2 := (h6.cells hj).1
  have hby2 := relT_bytes (h6.relP j hj)
  obtain ⟨A2, hA2⟩ : ∃ A2, A2 = (⟨(bytes? (T4 j) (st j)).toArray⟩ : ByteArray) := ⟨_, rfl⟩
  rw [← hA2] at hby2
  have HA2 : Hid (A2 = (⟨(bytes? (T4 j) (st j)).toArray⟩ : ByteArray)) := hA2
  clear hby hA2
  go_wp2_with fail
  refine hby2.mono ?_
  rintro _ w7 ⟨rfl, hP7, c7⟩
  obtain ⟨z7, h7⟩ := h6.call hj c7 hP7 (fun g hg => .inl hg) (h6.lenT j hj) (h6.tel j hj)
  rw [putAt_self, putAt_self] at h7
  have v1 := h7.c1
  have v2 := (h7.cells hj).2
  have hak := alike_any (h7.relR k hk) (h7.relR j hj) (by omega) (relT_small' (h7.relP k hk)) (relT_small' (h7.relP j hj))
  clear hby2 u0 u2
  go_wp2_with fail
  refine hak.mono ?_
  rintro _ w8 ⟨⟨t, rfl, ht⟩, c8⟩
  have h8 := h7.keep c8
  have HA : Hid (t = true → A1 = A2) := fun e => by
    obtain ⟨s, e1, e2⟩ := ht e
    obtain ⟨g1, g2⟩ := HT.out s e1 e2
    rw [HA1.out, HA2.out, g1, g2, e1, e2]
  clear hak v1 v2 ht
  cases t with
  | false =>
    go_wp2_with (go_at_call 47; refine (num_any _ _).mono ?_; rintro _ w9 ⟨rfl, e9⟩; rw [e9]; clear e9 w9)
    go_ret
    exact ⟨by simp, _, _, _, _, _, _, _, _, _, _, _, _, _, h8.up⟩
  | true =>
    have hA := HA.out rfl
    subst hA
    go_wp2_with (go_at_call 47; refine (num_any _ _).mono ?_; rintro _ w9 ⟨rfl, e9⟩; rw [e9]; clear e9 w9)
    go_ret
    exact ⟨by simp, _, _, _, _, _, _, _, _, _, _, _, _, _, h8.up⟩
end Go.Proofs.YthedkdbgfdjlkaaGreatDoor

namespace Go.Proofs.YthedkdbgfdjlkaaGreatDoor
set_option linter.unusedVariables false
set_option linter.unusedSimpArgs false
open Go.RowKit Go.Lib
theorem told_any {W0 w : World} {wb n N : Nat} (hx : Wx W0 w wb n N) (hN : N ≤ 10000000) {k : Nat} (hk : k < n) (o : OpD) (hf : o.fits) (h2 : 2 ≤ o.kind) (h6 : o.kind ≤ 6) :
    Calls Tryz.prog 27 #[.pointer (some ⟨wb, 0, none⟩), .int .i64 k, o.value] w fun e w' => e = .returned (.bool true) ∧ Wx W0 w' wb n (N + 1) := by
  rcases (by omega : o.kind = 2 ∨ o.kind = 3 ∨ o.kind = 4 ∨ o.kind = 5 ∨ o.kind = 6) with e | e | e | e | e
  · exact told_accept hx hN hk o hf e
  · exact told_state hx hN hk o hf e
  · exact told_close hx hN hk o hf e
  · exact told_puts hx hN hk o hf e
  · exact told_answer hx hN hk o hf e
theorem bytesOf_any {W0 w : World} {wb n N : Nat} (hx : Wx W0 w wb n N) (hN : N ≤ 10000000) (hg : HandleAt w) {k : Nat} (hk : k < n) (o : OpD) (hf : o.fits) (h7 : 7 ≤ o.kind) (h10 : o.kind ≤ 10) :
    Calls Tryz.prog 28 #[.pointer (some ⟨wb, 0, none⟩), .int .i64 k, o.value] w fun e w' => e = .returned (.bool true) ∧ ∃ n', n ≤ n' ∧ Wx W0 w' wb n' (N + 1) := by
  rcases (by omega : o.kind = 7 ∨ o.kind = 8 ∨ o.kind = 9 ∨ o.kind = 10) with e | e | e | e
  · exact (bytesOf_bytes hx hN hk o e).mono fun e w' ⟨h1, h2⟩ => ⟨h1, n, Nat.le_refl _, h2⟩
  · exact (bytesOf_shrink hx hN hk o e).mono fun e w' ⟨h1, h2⟩ => ⟨h1, n, Nat.le_refl _, h2⟩
  · exact bytesOf_open hx hN hg hk o hf e
  · exact (bytesOf_same hx hN hk o hf e).mono fun e w' ⟨h1, h2⟩ => ⟨h1, n, Nat.le_refl _, h2⟩
theorem still_any {W0 w : World} {wb n N : Nat} (hx : Wx W0 w wb n N) (hN : N ≤ 10000000) :
    Calls Tryz.prog 29 #[.pointer (some ⟨wb, 3, none⟩)] w fun e w' => e = .returned (.bool true) ∧ Wx W0 w' wb n N := by
  obtain ⟨z, pa, ra, st, T, FP, FR, B, r, L, vp, vr, K, h⟩ := hx
  have h0 := h.lenL 0 (by omega)
  have h1 := h.lenL 1 (by omega)
  have h2 := h.lenL 2 (by omega)
  have h3 := h.lenL 3 (by omega)
  exact (mstill_any h.book.bookAt ⟨by omega, by omega, by omega, by omega⟩).mono fun e w' ⟨he, c⟩ => ⟨he, _, _, _, _, _, _, _, _, _, _, _, _, _, h.keep c⟩
structure OpsAt (W : World) (v : Value) (S : List OpD) : Prop where
  val : ∃ p c, v = .slice p S.length c
  at_i : ∀ (i : Nat) (x : OpD), S[i]? = some x → ∃ sb so cap, v = .slice (some ⟨sb, so, none⟩) S.length cap ∧ ∀ j u, x.cells[j]? = some u → W.cell? ⟨sb, so + i * 9 + j, none⟩ = some u
  fits : ∀ x ∈ S, x.fits
theorem Wx.start (W : World) : Wx W (W.alloc (.cells #[.slice none 0 0, .slice none 0 0, .slice none 0 0, .slice none 0 0, .slice none 0 0, .slice none 0 0, .slice none 0 0] 80)) W.heap.size 0 0 := by
  have c : Chg (fun _ => False) W (W.alloc (.cells #[.slice none 0 0, .slice none 0 0, .slice none 0 0, .slice none 0 0, .slice none 0 0, .slice none 0 0, .slice none 0 0] 80)) := (Chg.refl _ W).alloc _
  refine ⟨fun g => if g < W.heap.size then 0 else 1, fun _ => ⟨0, 0, none⟩, fun _ => ⟨0, 0, none⟩, fun _ => none, fun _ => [], fun _ _ => False, fun _ _ => False, fun _ => False, fun _ => .slice none 0 0, fun _ => [], .slice none 0 0, .slice none 0 0, ⟨0, fun _ => [], fun _ => ⟨0, 0, none⟩, fun _ => St.init, fun _ _ => False, .slice none 0 0⟩, ?_⟩
  refine ⟨⟨fun j => World.frozen?_alloc_at _ _ _ _ rfl, fun x hx => ?_, fun x hx => World.ownsRow_nil _ _ _ _, fun _ _ => rfl, fun x hx i u hu => by simp at hu, fun x hx g hg => by simp [Value.ownBlock] at hg, fun x hx u hu => by simp at hu, fun g hg => hg.elim⟩, World.cell?_alloc_at _ _ _ _ rfl, World.cell?_alloc_at _ _ _ _ rfl, World.ownsRow_nil _ _ _ _, World.ownsRow_nil _ _ _ _, Nat.le_refl _, fun i hi => by omega, fun i hi => by omega, fun i hi => by omega, fun x hx => by simp, by simp, fun g hg => by simp [Value.ownBlock] at hg, fun g hg => by simp [Value.ownBlock] at hg, fun g hg => hg.elim, fun i hi => by omega, fun i hi => by omega, fun g hg => by simp [hg], c, fun i hi => by omega, ⟨World.cell?_alloc_at _ _ _ _ rfl, World.ownsRow_nil _ _ _ _, Nat.le_refl _, fun i hi => absurd hi (Nat.not_lt_zero _), fun i hi => absurd hi (Nat.not_lt_zero _), fun i hi => absurd hi (Nat.not_lt_zero _), fun g hg => by simp [Value.ownBlock] at hg, fun i hi => absurd hi (Nat.not_lt_zero _)⟩⟩
  rcases (by omega : x = 0 ∨ x = 1 ∨ x = 2 ∨ x = 3) with rfl | rfl | rfl | rfl <;> exact World.cell?_alloc_at _ _ _ _ rfl
theorem Wx.ps {W0 w : World} {wb n N : Nat} (hx : Wx W0 w wb n N) : n ≤ N ∧ Chg (fun _ => False) W0 w ∧ ∃ p c, w.cell? ⟨wb, 0, none⟩ = some (.slice p n c) := by
  obtain ⟨z, pa, ra, st, T, FP, FR, B, r, L, vp, vr, K, h⟩ := hx
  obtain ⟨p, c, rfl⟩ := row_any h.rp
  exact ⟨h.many, h.orig, p, c, h.c0⟩
theorem Wx.keep {W0 w w' : World} {wb n N : Nat} (hx : Wx W0 w wb n N) (c : Chg (fun _ => False) w w') : Wx W0 w' wb n N := by
  obtain ⟨z, pa, ra, st, T, FP, FR, B, r, L, vp, vr, K, h⟩ := hx
  exact ⟨_, _, _, _, _, _, _, _, _, _, _, _, _, h.keep c⟩
set_option maxRecDepth 100000 in
set_option maxHeartbeats 8000000 in
theorem plays_any {W : World} {v : Value} {S : List OpD} (hS : OpsAt W v S) (hlen : S.length ≤ 2000000) (hi : Int) (h1 : 1 ≤ hi) (h10 : hi ≤ 10) (hg : 6 < hi → HandleAt W) :
    Calls Tryz.prog 9 #[v, .int .i64 hi] W fun e w' => e = .returned (.bool true) ∧ Chg (fun _ => False) W w' := by
  obtain ⟨p0, cap0, rfl⟩ := hS.val
  have HG : Hid (6 < hi → HandleAt W) := hg
  clear hg
  obtain ⟨V0, hV0⟩ : ∃ V0, V0 = W.alloc (.cells #[.slice none 0 0, .slice none 0 0, .slice none 0 0, .slice none 0 0, .slice none 0 0, .slice none 0 0, .slice none 0 0] 80) := ⟨_, rfl⟩
  have hst : Wx W V0 W.heap.size 0 0 := by rw [hV0]; exact Wx.start W
  have hbg := begins_any hst (by omega)
  go_enter Tryz.func9, Tryz.ntmps9
  go_wp2_with (go_at_call 25; rw [← hV0]; refine hbg.mono ?_; rintro _ w1 ⟨rfl, hx1⟩)
  clear hV0
  obtain ⟨wb, hwb⟩ : ∃ wb, wb = W.heap.size := ⟨_, rfl⟩
  rw [← hwb] at hx1 hst hbg
  rw [← hwb]
  clear hwb hst hbg
  go_loopw [6, 7, 8, 9, 10] (fun _ si _ _ _ wr => ∃ (i n N : Nat), si = .int .i64 i ∧ i ≤ S.length ∧ N ≤ i + 1 ∧ 0 < n ∧ Wx W wr wb n N) (fun _ si _ _ _ _ => S.length - (intOf si).toNat)
  case atStart => exact ⟨0, 1, 1, rfl, by omega, by omega, by omega, hx1⟩
  case round =>
    obtain ⟨i, n, N, rfl, hil, hNi, hn, hx⟩ := hrel
    obtain ⟨hnN, hor, p, c, hps⟩ := hx.ps
    by_cases hlt : i < S.length
    · have hlt' : (i : Int) < (S.length : Int) := by omega
      obtain ⟨x, hxi⟩ : ∃ x, S[i]? = some x := ⟨_, List.getElem?_eq_getElem hlt⟩
      obtain ⟨sb, so, cap, hv, hcell⟩ := hS.at_i i x hxi
      simp only [Value.slice.injEq] at hv
      obtain ⟨rfl, _, rfl⟩ := hv
      have hfx := hS.fits x (List.mem_of_getElem? hxi)
      obtain ⟨kd, on, ⟨xs, xe, xn, xk, xv⟩, key, num⟩ := x
      have hcl : ∀ j u, (OpD.cells ⟨kd, on, ⟨xs, xe, xn, xk, xv⟩, key, num⟩)[j]? = some u → wr.cell? ⟨sb, so + i * 9 + j, none⟩ = some u := fun j u hu => hor.cellAt (hcell j u hu) id
      have b0 := hcl 0 _ rfl
      have b1 := hcl 1 _ rfl
      have b2 := hcl 2 _ rfl
      have b3 := hcl 3 _ rfl
      have b4 := hcl 4 _ rfl
      have b5 := hcl 5 _ rfl
      have b6 := hcl 6 _ rfl
      have b7 := hcl 7 _ rfl
      have b8 := hcl 8 _ rfl
      simp only [Nat.add_zero] at b0
      clear hcl hcell
      obtain ⟨W1, hW1⟩ : ∃ W1, W1 = wr.alloc (.cells #[.int .i64 kd, .int .i64 on, .int .i64 xs, .int .i64 xe, .int .i64 xn, .string xk, .int .i64 xv, .string key, .int .i64 num] 82) := ⟨_, rfl⟩
      have c1 : Chg (fun _ => False) wr W1 := by rw [hW1]; exact (Chg.refl _ wr).alloc _
      have hx1' := hx.keep c1
      have ho : ∀ j u, (OpD.cells ⟨kd, on, ⟨xs, xe, xn, xk, xv⟩, key, num⟩)[j]? = some u → W1.cell? ⟨wr.heap.size, j, none⟩ = some u := by rw [hW1]; exact opd_new wr _
      by_cases hk1 : kd < 1
      · go_wp2_with fail
        rw [← hW1]
        exact ⟨⟨i + 1, n, N, by go_num, by omega, by omega, hn, hx1'⟩, by simp [intOf]; omega⟩
      · have hk1' : ¬ kd ≤ 0 := by omega
        by_cases hkh : hi < kd
        · go_wp2_with fail
          rw [← hW1]
          exact ⟨⟨i + 1, n, N, by go_num, by omega, by omega, hn, hx1'⟩, by simp [intOf]; omega⟩
        · have hal : ∀ (p : Addr) (v : Value), wr.cell? p = some v → ∀ ob, (wr.alloc ob).cell? p = some v := fun p v hv ob => (World.cell?_alloc_lt wr ob p (World.block_lt_of_cell? _ _ hv)).trans hv
          have a0 := hal _ _ hps
          have hpk : ∀ (w : World), Calls Tryz.prog 26 #[.int .i64 on, .int .i64 n] w fun e w' => e = .returned (.int .i64 (pickI on n)) ∧ w' = w := fun w => lpick_any on n w hfx.on (by omega) (by omega)
          obtain ⟨hr0, hr1⟩ := pickI_range (c := on) (n := (n : Int)) (by omega)
          obtain ⟨k, hk⟩ : ∃ k : Nat, pickI on n = (k : Int) := ⟨(pickI on n).toNat, by omega⟩
          rw [hk] at hr0 hr1 hpk
          have hkn : k < n := by omega
          have o0 := ho 0 _ rfl
          have o1 := ho 1 _ rfl
          have o2 := ho 2 _ rfl
          have o3 := ho 3 _ rfl
          have o4 := ho 4 _ rfl
          have o5 := ho 5 _ rfl
          have o6 := ho 6 _ rfl
          have o7 := ho 7 _ rfl
          have o8 := ho 8 _ rfl
          go_wp2_with fail
          rw [← hW1]
          have a0' : W1.cell? ⟨wb, 0, none⟩ = some (.slice p n c) := by rw [hW1]; exact a0 _
          clear hW1 ho
          go_quiet (first | (go_at_call 26; refine Calls.quiet_of_same (hpk _)))
          have c2 : Chg (fun _ => False) W1 (W1.drewN nq) := (Chg.refl _ W1).drewN' nq
          generalize W1.drewN nq = w2 at c2 ⊢
          have hx2 := hx1'.keep c2
          have e0 := c2.cellAt o0 id
          have e1 := c2.cellAt o1 id
          have e2 := c2.cellAt o2 id
          have e3 := c2.cellAt o3 id
          have e4 := c2.cellAt o4 id
          have e5 := c2.cellAt o5 id
          have e6 := c2.cellAt o6 id
          have e7 := c2.cellAt o7 id
          have e8 := c2.cellAt o8 id
          by_cases hk2 : kd = 1
          · subst hk2
            have hbg := begins_any hx2 (by omega)
            go_wp2_with (first | (go_at_call 25; refine hbg.mono ?_; rintro _ w3 ⟨rfl, hx3⟩; have hsl := still_any hx3 (by omega)) | (go_at_call 29; refine hsl.mono ?_; rintro _ w4 ⟨rfl, hx4⟩))
            exact ⟨⟨i + 1, n + 1, N + 1, by go_num, by omega, by omega, by omega, hx4⟩, by simp [intOf]; omega⟩
          · by_cases hk6 : kd ≤ 6
            · have hkl : kd ≤ 6 := hk6
              have htl := told_any hx2 (by omega) hkn ⟨kd, on, ⟨xs, xe, xn, xk, xv⟩, key, num⟩ hfx (by show 2 ≤ kd; omega) hkl
              unfold OpD.value at htl
              simp only at htl
              go_wp2_with (first | (go_at_call 27; refine htl.mono ?_; rintro _ w3 ⟨rfl, hx3⟩; have hsl := still_any hx3 (by omega)) | (go_at_call 29; refine hsl.mono ?_; rintro _ w4 ⟨rfl, hx4⟩))
              exact ⟨⟨i + 1, n, N + 1, by go_num, by omega, by omega, hn, hx4⟩, by simp [intOf]; omega⟩
            · have hg2 : HandleAt w2 := (HG.out (by omega)).chg ((hor.trans c1 (fun _ _ h => h)).trans c2 (fun _ _ h => h)) id
              have htl := bytesOf_any hx2 (by omega) hg2 hkn ⟨kd, on, ⟨xs, xe, xn, xk, xv⟩, key, num⟩ hfx (by show 7 ≤ kd; omega) (by show kd ≤ 10; omega)
              unfold OpD.value at htl
              simp only at htl
              go_wp2_with (first | (go_at_call 28; refine htl.mono ?_; rintro _ w3 ⟨rfl, n', hn', hx3⟩; have hsl := still_any hx3 (by omega)) | (go_at_call 29; refine hsl.mono ?_; rintro _ w4 ⟨rfl, hx4⟩))
              exact ⟨⟨i + 1, n', N + 1, by go_num, by omega, by omega, by omega, hx4⟩, by simp [intOf]; omega⟩
    · have hlt' : ¬ (i : Int) < (S.length : Int) := by omega
      go_wp2_with fail
      go_ret
      exact ⟨rfl, hor⟩
end Go.Proofs.YthedkdbgfdjlkaaGreatDoor

namespace Go.Proofs.YthedkdbgfdjlkaaGreatDoor
set_option linter.unusedVariables false
set_option linter.unusedSimpArgs false
open Go.ChangeShapes Go.WideShapes Go.ChangeAt Go.RowKit Go.Deep
theorem Tryz.ownKnob : ownKnob Tryz.prog.godebug = none := by kernel_rfl
theorem Tryz.laidOut : laidOutB Tryz.prog = true := by kernel_rfl
theorem Tryz.cellsOp : Tryz.prog.cellsOf 82 = 9 := by kernel_rfl
theorem Tryz.cellsRec : Tryz.prog.cellsOf 53 = 5 := by kernel_rfl
theorem Tryz.cellsInt : Tryz.prog.cellsOf 3 = 1 := by kernel_rfl
theorem Tryz.cellsStr : Tryz.prog.cellsOf 9 = 1 := by kernel_rfl
theorem wf_inInt {n : Int} (h : (Lit.int .i64 n).wf = true) : inInt n := by
  simpa [Lit.wf, IntKind.min, IntKind.max, IntKind.signed, IntKind.bits, inInt] using h
theorem len5 {α : Type} {l : List α} (h : l.length = 5) : ∃ a b c d e, l = [a, b, c, d, e] := by
  match l, h with
  | [a, b, c, d, e], _ => exact ⟨a, b, c, d, e, rfl⟩
theorem len9 {α : Type} {l : List α} (h : l.length = 9) : ∃ a b c d e f g i j, l = [a, b, c, d, e, f, g, i, j] := by
  match l, h with
  | [a, b, c, d, e, f, g, i, j], _ => exact ⟨a, b, c, d, e, f, g, i, j, rfl⟩
theorem bulk_one {H : Type} (d : DataW H) : 1 ≤ Rows.uptoBulk d := by
  cases d with
  | lit l => cases l <;> simp [Rows.uptoBulk]
  | nil => simp [Rows.uptoBulk]
  | ptr d => simp [Rows.uptoBulk]
  | slice elems spare => simp [Rows.uptoBulk]
  | agg parts => simp [Rows.uptoBulk]
  | iface t d => simp [Rows.uptoBulk]
  | map entries => simp [Rows.uptoBulk]
  | held h => simp [Rows.uptoBulk]
theorem bulk_length {H : Type} (l : List (DataW H)) : l.length ≤ Rows.uptoBulkAll l := by
  induction l with
  | nil => simp [Rows.uptoBulkAll]
  | cons x r ih => have := bulk_one x; simp only [Rows.uptoBulkAll, List.length_cons]; omega
section
variable {H : Type} {enc : TypeId × Value → H} {W : World} {sp : Nat → Bool} {held : Bool} {base : Nat}
theorem open_rec {n : Nat} {cs : List Value} {y : DataW H × List MemPlace} (h : DataW.trod enc Tryz.prog W base sp held n 53 cs = some y) :
    ∃ x : Rec, cs = [.int .i64 x.session, .int .i64 x.epoch, .int .i64 x.number, .string x.key, .int .i64 x.value] ∧ x.fits := by
  obtain ⟨xs, k, _, _, hlen, hxl, hf⟩ := DataW.trod_struct Tryz.underlying53 h
  rw [Tryz.cellsRec] at hlen
  obtain ⟨y0, y1, y2, y3, y4, rfl⟩ := len5 hxl
  obtain ⟨c0, c1, c2, c3, c4, rfl⟩ := len5 hlen
  · clear hxl hlen h
    have g0 := hf 0 _ rfl
    have g1 := hf 1 _ rfl
    have g2 := hf 2 _ rfl
    have g3 := hf 3 _ rfl
    have g4 := hf 4 _ rfl
    simp [Tryz.cellsInt, Tryz.cellsStr] at g0 g1 g2 g3 g4
    obtain ⟨n0, e0, _, w0⟩ := DataW.trod_int Tryz.underlying3 g0
    obtain ⟨n1, e1, _, w1⟩ := DataW.trod_int Tryz.underlying3 g1
    obtain ⟨n2, e2, _, w2⟩ := DataW.trod_int Tryz.underlying3 g2
    obtain ⟨s3, e3, _, w3⟩ := DataW.trod_string Tryz.underlying9 g3
    obtain ⟨n4, e4, _, w4⟩ := DataW.trod_int Tryz.underlying3 g4
    simp at e0 e1 e2 e3 e4
    exact ⟨⟨n0, n1, n2, s3, n4⟩, by simp [e0, e1, e2, e3, e4], ⟨wf_inInt w0, wf_inInt w1, wf_inInt w2, wf_inInt w4, w3⟩⟩
theorem open_op {n : Nat} {cs : List Value} {y : DataW H × List MemPlace} (h : DataW.trod enc Tryz.prog W base sp held n 82 cs = some y) :
    ∃ x : OpD, cs = x.cells ∧ x.fits := by
  obtain ⟨xs, k, _, _, hlen, hxl, hf⟩ := DataW.trod_struct Tryz.underlying82 h
  rw [Tryz.cellsOp] at hlen
  obtain ⟨y0, y1, y2, y3, y4, rfl⟩ := len5 hxl
  obtain ⟨c0, c1, c2, c3, c4, c5, c6, c7, c8, rfl⟩ := len9 hlen
  · clear hxl hlen h
    have g0 := hf 0 _ rfl
    have g1 := hf 1 _ rfl
    have g2 := hf 2 _ rfl
    have g3 := hf 3 _ rfl
    have g4 := hf 4 _ rfl
    simp [Tryz.cellsInt, Tryz.cellsStr, Tryz.cellsRec] at g0 g1 g2 g3 g4
    obtain ⟨n0, e0, _, w0⟩ := DataW.trod_int Tryz.underlying3 g0
    obtain ⟨n1, e1, _, w1⟩ := DataW.trod_int Tryz.underlying3 g1
    obtain ⟨x, e2, hx⟩ := open_rec g2
    obtain ⟨s3, e3, _, w3⟩ := DataW.trod_string Tryz.underlying9 g3
    obtain ⟨n4, e4, _, w4⟩ := DataW.trod_int Tryz.underlying3 g4
    simp at e0 e1 e2 e3 e4
    exact ⟨⟨n0, n1, x, s3, n4⟩, by simp [OpD.cells, e0, e1, e2, e3, e4], ⟨wf_inInt w0, wf_inInt w1, hx, w3, wf_inInt w4⟩⟩
set_option maxRecDepth 100000 in
theorem open_ops {v : Value} {d : DataW H} {p : List MemPlace} (hv : Value.okWide Tryz.prog W .any base 22 v) (h : DataW.Trod enc Tryz.prog W 0 (fun _ => true) true 22 v d p) (hb : Rows.uptoBulk d ≤ 1048576) : ∃ S, OpsAt W v S ∧ S.length ≤ 2000000 := by
  obtain ⟨a0, len0, cap0, rfl⟩ := okWide_slice Tryz.underlying22 hv
  obtain ⟨fuel, hf⟩ := h
  rcases open_slice Tryz.underlying22 hf with ⟨hc, _⟩ | ⟨a, len, cap, m, n, D, Pl, hcs, _, hl, hm, hmm, hdp, hall⟩
  · simp [Value.cells] at hc
    obtain ⟨rfl, rfl, rfl⟩ := hc
    exact ⟨[], ⟨⟨none, 0, rfl⟩, fun i x hx => by simp at hx, by simp⟩, by simp⟩
  · simp [Value.cells] at hcs
    obtain ⟨rfl, rfl, rfl⟩ := hcs
    simp only [if_true] at hmm
    subst hmm
    have hlen : len0 ≤ 2000000 := by
      have hd := (Prod.mk.inj hdp).1
      rw [hd] at hb
      simp only [Rows.uptoBulk] at hb
      have h1 := bulk_length ((List.range len0).map D)
      simp only [List.length_map, List.length_range] at h1
      omega
    rw [Tryz.cellsOp] at hall
    have each : ∀ i, i < m → ∃ x : OpD, (∀ j u, x.cells[j]? = some u → W.cell? (a.add (i * 9 + j)) = some u) ∧ x.fits := fun i hi => by
      obtain ⟨cs', h1, h2⟩ := hall i hi
      obtain ⟨x, rfl, hx⟩ := open_op h2
      obtain ⟨_, _, hcell⟩ := World.cells?_some h1
      refine ⟨x, fun j u hu => ?_, hx⟩
      have hj : j < 9 := by
        have := (List.getElem?_eq_some_iff.1 hu).1
        simpa [OpD.cells] using this
      have := hcell j hj
      rw [add_add] at this
      rw [this]; exact hu
    obtain ⟨f, hfx⟩ := @choose_lt OpD ⟨⟨0, 0, ⟨0, 0, 0, ⟨#[]⟩, 0⟩, ⟨#[]⟩, 0⟩⟩ _ _ each
    refine ⟨(List.range len0).map f, ⟨⟨some a, m, by simp⟩, fun i x hx => ?_, fun x hx => ?_⟩, by simpa using hlen⟩
    · have hi : i < len0 := by
        have := (List.getElem?_eq_some_iff.1 hx).1
        simpa using this
      have hxe : f i = x := by
        rw [List.getElem?_map, List.getElem?_range hi] at hx
        simpa using hx
      subst hxe
      obtain ⟨sb, so, spot⟩ := a
      have hspot : spot = none := by
        have := World.cell?_spot ((hfx 0 (by omega)).1 0 _ rfl)
        simpa [Addr.add] using this
      subst hspot
      refine ⟨sb, so, m, by simp, fun j u hu => ?_⟩
      have := (hfx i (by omega)).1 j u hu
      rw [add_lit'] at this
      rw [show so + i * 9 + j = so + (i * 9 + j) by omega]
      exact this
    · obtain ⟨i, hi, rfl⟩ := List.mem_map.1 hx
      exact (hfx i (by have := List.mem_range.1 hi; omega)).2
end
end Go.Proofs.YthedkdbgfdjlkaaGreatDoor
