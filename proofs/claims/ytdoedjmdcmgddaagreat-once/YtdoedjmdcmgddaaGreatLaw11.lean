/- Once: more, WALKED. -/
import Derived.Test.YtdoedjmdcmgddaaGreatLaw10
namespace Go.Proofs.YtdoedjmdcmgddaaGreat
set_option linter.unusedVariables false
set_option linter.unusedSimpArgs false
open Go.RowKit Go.Lib

/-- An order in memory: those that were taken, and the bases. -/
structure OrdAt (w : World) (ob lo : Nat) (vl : Value) (l : List Rec) (B : Nat → Int) : Prop where
  list : w.cell? ⟨ob, 0, none⟩ = some vl
  bs : ∀ j, j < 4 → w.cell? ⟨ob, 1 + j, none⟩ = some (.int .i64 (B j))
  fz : ∀ j, w.frozen? ⟨ob, j, none⟩ = false
  row : w.ownsRow lo 37 5 vl l.length (recCells l)
  ne : vl.ownBlock ≠ some ob

theorem OrdAt.chg {F : Nat → Prop} {w w' : World} {ob lo : Nat} {vl : Value} {l : List Rec} {B : Nat → Int} (h : OrdAt w ob lo vl l B) (hc : Chg F w w') (hb : ¬ F ob) (hv : ∀ k, vl.ownBlock = some k → ¬ F k) : OrdAt w' ob lo vl l B :=
  ⟨hc.cellAt h.list hb, fun j hj => hc.cellAt (h.bs j hj) hb, fun j => (World.frozen?_of_block (w := w) (hc.block ob (World.block_lt_of_cell? _ _ h.list) hb)).trans (h.fz j), hc.row' h.row hv, h.ne⟩

/-- Those of a session with a number. -/
def hits (all : List Rec) (i : Nat) (n : Int) : List Rec := all.filter (fun x => x.session == (i : Int) && x.number == n)

theorem filter_number : ∀ (A : List Rec) (k : Int) (n : Nat), (∀ (m : Nat) (x : Rec), A[m]? = some x → x.number = k + m) → A.filter (fun x => x.number == k + (n : Int)) = (A.drop n).take 1
  | [], k, n, _ => by simp
  | x :: r, k, 0, h => by
    have hx := h 0 x rfl
    have hr : r.filter (fun x => x.number == k + ((0 : Nat) : Int)) = [] := by
      refine List.filter_eq_nil_iff.2 (fun y hy => ?_)
      obtain ⟨m, hm, e⟩ := List.getElem_of_mem hy
      have := h (m + 1) y (by rw [List.getElem?_cons_succ, List.getElem?_eq_getElem hm, e])
      simp
      omega
    rw [List.filter_cons, hr]
    simp [hx]
  | x :: r, k, n + 1, h => by
    have hx := h 0 x rfl
    have ih := filter_number r (k + 1) n (fun m y hy => by
      have := h (m + 1) y (by rw [List.getElem?_cons_succ]; exact hy)
      omega)
    rw [List.filter_cons, if_neg (by simp; omega)]
    have e : k + ((n + 1 : Nat) : Int) = k + 1 + (n : Int) := by omega
    rw [e, ih]
    rfl

theorem hits_one {all : List Rec} (hN : Numbered all) (i n : Nat) : hits all i n = ((ofS all i).drop n).take 1 := by
  have h := filter_number (ofS all i) 0 n (fun m x hx => by rw [hN.num i m x hx]; omega)
  rw [← h]
  unfold hits ofS
  rw [List.filter_filter]
  congr 1
  funext x
  simp [Bool.and_comm]

theorem hits_take_next (all : List Rec) (i : Nat) (n : Int) (p : Nat) (x : Rec) (h : all[p]? = some x) : hits (all.take (p + 1)) i n = if x.session = i ∧ x.number = n then hits (all.take p) i n ++ [x] else hits (all.take p) i n := by
  obtain ⟨hl, e⟩ := List.getElem?_eq_some_iff.1 h
  unfold hits
  rw [List.take_succ_eq_append_getElem hl, e, List.filter_append]
  split
  · rename_i h; simp [h]
  · rename_i h
    have : ¬ (x.session == (i : Int) && x.number == n) = true := by simpa using h
    simp [List.filter_cons, this]

theorem drop_take_next {A : List Rec} {B n : Nat} (hB : B ≤ n) : (A.drop B).take (n - B) ++ (A.drop n).take 1 = (A.drop B).take (n + 1 - B) := by
  have e : n + 1 - B = (n - B) + 1 := by omega
  rw [e, List.take_add]
  congr 2
  rw [List.drop_drop]
  congr 1
  omega

/-- Where a list lies that was appended to. -/
def Wh (n : Nat) (v v' : Value) : Prop := v'.ownBlock = v.ownBlock ∨ ∀ k, v'.ownBlock = some k → n ≤ k

theorem Wh.refl (n : Nat) (v : Value) : Wh n v v := .inl rfl
theorem Wh.trans {n m : Nat} {a b c : Value} (h : Wh n a b) (h' : Wh m b c) (hn : n ≤ m) : Wh n a c := by
  rcases h' with h' | h'
  · rcases h with h | h
    · exact .inl (h'.trans h)
    · exact .inr fun k hk => h k (by rw [← h']; exact hk)
  · exact .inr fun k hk => Nat.le_trans hn (h' k hk)

theorem OrdAt.push {w w1 : World} {ob lo : Nat} {vl v' : Value} {l : List Rec} {B : Nat → Int} (h : OrdAt w ob lo vl l B) (o : Obj) (x : Rec) (hown : w1.ownsRow lo 37 5 v' (l.length + 1) (recCells l ++ x.cells)) (hg : (w.alloc o).drew.grownBy w1 vl.ownBlock) (hw : v'.ownBlock = vl.ownBlock ∨ ∀ k, v'.ownBlock = some k → (w.alloc o).drew.heap.size ≤ k) :
    OrdAt (w1.setCell ⟨ob, 0, none⟩ v') ob lo v' (l ++ [x]) B ∧ Wh w.heap.size vl v' ∧ Chg (fun k => k = ob ∨ vl.ownBlock = some k) w (w1.setCell ⟨ob, 0, none⟩ v') := by
  have hlt := World.block_lt_of_cell? _ _ h.list
  have e : (w.alloc o).drew.heap.size = w.heap.size + 1 := World.size_alloc _ _
  have c1 : Chg (fun k => vl.ownBlock = some k) w w1 := ((Chg.refl (fun k => vl.ownBlock = some k) w).alloc o).trans (G := fun k => vl.ownBlock = some k) ⟨hg.os, hg.tape, hg.output, hg.size, fun k hk hne' => hg.block k hk (fun h => hne' h.symm)⟩ (fun _ _ h => h)
  have c2 : Chg (fun k => k = ob) w1 (w1.setCell ⟨ob, 0, none⟩ v') := Chg.setCell (p := ⟨ob, 0, none⟩) (Chg.refl (fun k => k = ob) w1) (fun _ => rfl) _
  have hb : v'.ownBlock ≠ some ob := by
    rcases hw with hw | hw
    · rw [hw]; exact h.ne
    · intro hk; have := hw _ hk; simp only at hlt; omega
  refine ⟨⟨World.cell?_setCell_same _ _ _ (c1.cellAt h.list h.ne), fun j hj => (World.cell?_setCell_other _ _ _ _ (by simp)).trans (c1.cellAt (h.bs j hj) h.ne), fun j => ?_, ?_, hb⟩, ?_, ?_⟩
  · rw [World.frozen?_setCell]
    exact (World.frozen?_of_block (w := w) (c1.block ob hlt h.ne)).trans (h.fz j)
  · have := c2.row' hown (fun k hk hf => hb (by rw [← hf]; exact hk))
    rw [recCells_append]
    simpa [recCells] using this
  · rcases hw with hw | hw
    · exact .inl hw
    · exact .inr fun k hk => by have := hw k hk; omega
  · exact (c1.mono (fun k hk => .inr hk)).trans c2 (fun k _ hk => .inl hk)

theorem OrdAt.base {w : World} {ob lo : Nat} {vl : Value} {l : List Rec} {B : Nat → Int} (h : OrdAt w ob lo vl l B) {i : Nat} (hi : i < 4) (b : Int) : OrdAt (w.setCell ⟨ob, 1 + i, none⟩ (.int .i64 b)) ob lo vl l (fun j => if j = i then b else B j) := by
  have c : Chg (fun k => k = ob) w (w.setCell ⟨ob, 1 + i, none⟩ (.int .i64 b)) := Chg.setCell (p := ⟨ob, 1 + i, none⟩) (Chg.refl (fun k => k = ob) w) (fun _ => rfl) _
  refine ⟨(World.cell?_setCell_other _ _ _ _ (by simp <;> omega)).trans h.list, fun j hj => ?_, fun j => by rw [World.frozen?_setCell]; exact h.fz j, c.row' h.row (fun k hk hf => h.ne (by rw [← hf]; exact hk)), h.ne⟩
  by_cases e : j = i
  · subst e
    rw [World.cell?_setCell_same _ _ _ (h.bs j hj)]
    simp
  · rw [World.cell?_setCell_other _ _ _ _ (by simp <;> omega), h.bs j hj]
    simp [e]

set_option maxRecDepth 100000 in
set_option maxHeartbeats 4000000 in
theorem more_any {w : World} {ob lo la : Nat} {vl va : Value} {ol all : List Rec} {B : Nat → Int} {i : Nat} {b : Int} (hi : i < 4) (hO : OrdAt w ob lo vl ol B) (ra : w.ownsRow la 37 5 va all.length (recCells all)) (hae : va.ownBlock ≠ some ob) (hsep : ∀ g, va.ownBlock = some g → vl.ownBlock ≠ some g) (hlo : lo ≤ w.heap.size)
    (hN : Numbered all) (h0 : 0 ≤ B i) (h1 : B i ≤ b) (h2 : b ≤ B i + 4) (h3 : b ≤ (ofS all i).length) (hol : ol.length ≤ 900) :
    Calls Tryz.prog 13 #[.pointer (some ⟨ob, 0, none⟩), va, .int .i64 i, .int .i64 b] w fun e w' => e = .returned (.bool true) ∧ ∃ vl', OrdAt w' ob lo vl' (ol ++ ((ofS all i).drop (B i).toNat).take (b - B i).toNat) (fun j => if j = i then b else B j) ∧ Wh w.heap.size vl vl' ∧ Chg (fun k => k = ob ∨ vl.ownBlock = some k) w w' := by
  obtain ⟨i0, hi0, hz0, hz1, hz2⟩ := info_parts Tryz.infoR
  obtain ⟨pa, ca, rfl⟩ := row_any ra
  have hi' : (i : Int) < 4 := by omega
  have hBi := hO.bs i hi
  have hsl : (ofS all i).length ≤ all.length := List.length_filter_le _ _
  have hfew := hN.few
  obtain ⟨Bn, hBn⟩ : ∃ Bn : Nat, B i = Bn := ⟨(B i).toNat, by omega⟩
  rw [hBn] at hBi h0 h1 h2
  have HBN : Hid (B i = Bn) := hBn
  have hb0 : 0 ≤ b ∧ b ≤ 1000 := by omega
  clear hBn
  go_enter Tryz.func13, Tryz.ntmps13
  go_wp2_with fail
  go_loopw [9, 10, 11] (fun sn _ _ wr => ∃ (n : Nat) (vl' : Value), sn = .int .i64 n ∧ Bn ≤ n ∧ (n : Int) ≤ b ∧ OrdAt wr ob lo vl' (ol ++ ((ofS all i).drop Bn).take (n - Bn)) B ∧ Wh w.heap.size vl vl' ∧ Chg (fun k => k = ob ∨ vl.ownBlock = some k) w wr) (fun sn _ _ _ => b.toNat - (intOf sn).toNat)
  case atStart => exact ⟨Bn, vl, rfl, by omega, by omega, by simpa using hO, Wh.refl _ _, Chg.refl _ _⟩
  case round =>
    obtain ⟨n, v1, rfl, hn1, hn2, hO1, hW1, hc1⟩ := hrel
    clear hBi
    by_cases hnb : (n : Int) < b
    · obtain ⟨ln, hln⟩ : ∃ ln, ln = ol ++ ((ofS all i).drop Bn).take (n - Bn) := ⟨_, rfl⟩
      have hll : ln.length ≤ 910 := by
        rw [hln]
        simp only [List.length_append, List.length_take, List.length_drop]
        omega
      rw [← hln] at hO1
      go_wp2_with fail
      go_loopw [10, 11] (fun sf sp wq => ∃ (p : Nat) (f : Bool) (v2 : Value), sp = .int .i64 p ∧ p ≤ all.length ∧ sf = .bool f ∧ Hid (f = decide (0 < (hits (all.take p) i n).length)) ∧ OrdAt wq ob lo v2 (ln ++ hits (all.take p) i n) B ∧ Wh w.heap.size vl v2 ∧ Chg (fun k => k = ob ∨ vl.ownBlock = some k) w wq) (fun _ sp _ => all.length - (intOf sp).toNat)
      case atStart => exact ⟨0, false, v1, rfl, by omega, rfl, (show _ = _ by simp [hits]), by simpa [hits] using hO1, hW1, hc1⟩
      case round =>
        obtain ⟨p, f, v2, rfl, hp, rfl, HF, hO2, hW2, hc2⟩ := hrel
        by_cases hpl : p < all.length
        · have hpl' : (p : Int) < (all.length : Int) := by omega
          obtain ⟨x, hx⟩ : ∃ x, all[p]? = some x := ⟨_, List.getElem?_eq_getElem hpl⟩
          have ra2 := hc2.row' ra (fun k hk hf => by
            rcases hf with hf | hf
            · exact hae (by rw [← hf]; exact hk)
            · exact hsep k hk hf)
          obtain ⟨ga, ca', hva, _, _, hcell⟩ := row_pos ra2 (by omega)
          simp only [Value.slice.injEq] at hva
          obtain ⟨rfl, _, rfl⟩ := hva
          have cx := recCells_at all p x hx
          have m0 := hcell _ _ cx.1
          have m1 := hcell _ _ cx.2.1
          have m2 := hcell _ _ cx.2.2.1
          have m3 := hcell _ _ cx.2.2.2.1
          have m4 := hcell _ _ cx.2.2.2.2
          have hnx := hits_take_next all i n p x hx
          have hhl : (hits (all.take p) i n).length ≤ 900 := by
            have : (hits (all.take p) i n).length ≤ (all.take p).length := List.length_filter_le _ _
            simp only [List.length_take] at this
            omega
          have HNX : Hid (hits (all.take (p + 1)) i n = if x.session = i ∧ x.number = n then hits (all.take p) i n ++ [x] else hits (all.take p) i n) := hnx
          clear hcell cx hnx
          by_cases hs : x.session = i
          · rw [hs] at m0
            by_cases hm : x.number = n
            · rw [hm] at m2
              have HNX' : Hid (hits (all.take (p + 1)) i n = hits (all.take p) i n ++ [x]) := by show _ = _; rw [HNX.out, if_pos ⟨hs, hm⟩]
              obtain ⟨l2, hl2⟩ : ∃ l2, l2 = ln ++ hits (all.take p) i n := ⟨_, rfl⟩
              have HL2 : Hid (l2 ++ [x] = ln ++ hits (all.take (p + 1)) i n) := by show _ = _; rw [hl2, HNX'.out, List.append_assoc]
              have hl2l : l2.length ≤ 2000 := by rw [hl2, List.length_append]; omega
              rw [← hl2] at hO2
              have HX : Hid (x.cells = [.int .i64 i, .int .i64 x.epoch, .int .i64 n, .string x.key, .int .i64 x.value]) := by show _ = _; unfold Rec.cells; rw [hs, hm]
              have HF' : Hid (true = decide (0 < (hits (all.take (p + 1)) i n).length)) := by show _ = _; rw [HNX'.out]; simp
              clear HNX hl2 hs hm HNX' HF
              obtain ⟨q, cap, rfl⟩ := row_any hO2.row
              have s1 : Hid (∀ j u, x.cells[j]? = some u → ((wr.alloc (.cells #[.int .i64 i, .int .i64 x.epoch, .int .i64 n, .string x.key, .int .i64 x.value] 37)).drew).cell? ((⟨wr.heap.size, 0, none⟩ : Addr).add j) = some u) := by
                intro j u hj
                rw [HX.out] at hj
                match j, hj with
                | 0, hj => simp at hj; subst hj; simp [Addr.add]
                | 1, hj => simp at hj; subst hj; simp [Addr.add]
                | 2, hj => simp at hj; subst hj; simp [Addr.add]
                | 3, hj => simp at hj; subst hj; simp [Addr.add]
                | 4, hj => simp at hj; subst hj; simp [Addr.add]
                | k + 5, hj => simp at hj
              have s2 : Hid (∀ u ∈ x.cells, u.oneCell' = true) := by
                intro u hu
                simp [Rec.cells] at hu
                rcases hu with rfl | rfl | rfl | rfl | rfl <;> rfl
              have s3 : Hid (l2.length + 1 ≤ maxLen) := by show _ ≤ maxLen; unfold maxLen; omega
              have s4 : Hid ((l2.length + 1) * 48 ≤ 140737488355328) := by show _ ≤ _; omega
              have s5 : Hid (lo ≤ ((wr.alloc (.cells #[.int .i64 i, .int .i64 x.epoch, .int .i64 n, .string x.key, .int .i64 x.value] 37)).drew).heap.size) := by show lo ≤ (wr.alloc _).heap.size; rw [World.size_alloc]; have := hc2.size; omega
              have s6 : Hid (∀ (v' : Value) (w1 : World), w1.ownsRow lo 37 5 v' (l2.length + 1) (recCells l2 ++ x.cells) → (wr.alloc (.cells #[.int .i64 i, .int .i64 x.epoch, .int .i64 n, .string x.key, .int .i64 x.value] 37)).drew.grownBy w1 (Value.slice q l2.length cap).ownBlock → (v'.ownBlock = (Value.slice q l2.length cap).ownBlock ∨ ∀ k, v'.ownBlock = some k → (wr.alloc (.cells #[.int .i64 i, .int .i64 x.epoch, .int .i64 n, .string x.key, .int .i64 x.value] 37)).drew.heap.size ≤ k) → w1.cell? ⟨ob, 0, none⟩ = some (.slice q l2.length cap) ∧ w1.frozen? ⟨ob, 0, none⟩ = false ∧ Hid (OrdAt (w1.setCell ⟨ob, 0, none⟩ v') ob lo v' (l2 ++ [x]) B ∧ Wh wr.heap.size (.slice q l2.length cap) v' ∧ Chg (fun k => k = ob ∨ (Value.slice q l2.length cap).ownBlock = some k) wr (w1.setCell ⟨ob, 0, none⟩ v'))) := by
                intro v' w1 hown hg hw
                have hlt := World.block_lt_of_cell? _ _ hO2.list
                have hb := hg.block ob (by show ob < (wr.alloc _).heap.size; rw [World.size_alloc]; simp only at hlt; omega) (fun h => hO2.ne h.symm)
                have hb' : w1.heap[ob]? = wr.heap[ob]? := hb.trans (Below.heap_alloc _ _ _ hlt)
                exact ⟨(World.cell?_of_block (w := wr) hb').trans hO2.list, (World.frozen?_of_block (w := wr) hb').trans (hO2.fz 0), hO2.push _ x hown hg hw⟩
              have hpa : (wr.alloc (.cells #[.int .i64 i, .int .i64 x.epoch, .int .i64 n, .string x.key, .int .i64 x.value] 37)).cell? ⟨ob, 0, none⟩ = some (.slice q l2.length cap) := (World.cell?_alloc_lt wr _ _ (World.block_lt_of_cell? _ _ hO2.list)).trans hO2.list
              have hp0 := hO2.list
              go_wp2_with fail
              go_region_law (refine step_append_own rfl (.tmp 68) (.tmp 73) 30 rfl lo 37 i0 _ 5 48 Tryz.underlying30 hi0 hz0 hz1 hz2 rfl (by decide) _ l2.length (recCells l2) (by simp [Act.eval, Act.put]) (hO2.row.alloc _) ⟨wr.heap.size, 0, none⟩ 1 1 x.cells (by simp [Act.eval, Act.put]) rfl s1.out s2.out s3.out s4.out s5.out ?_; intro v' w1 hown hgrow hwhere; obtain ⟨q', cap', rfl⟩ := row_any hown; obtain ⟨hp1, hz1', hh⟩ := s6.out (.slice q' (l2.length + 1) cap') w1 hown hgrow hwhere)
              all_goals
                go_wp2_with fail
                exact ⟨⟨p + 1, true, .slice q' (l2.length + 1) cap', by go_num, by omega, rfl, HF', by rw [← HL2.out]; exact hh.out.1, hW2.trans hh.out.2.1 hc2.size, hc2.trans hh.out.2.2 (fun k hk h => by
                  rcases h with h | h
                  · exact .inl h
                  · rcases hW2 with h2 | h2
                    · exact .inr (by rw [← h2]; exact h)
                    · have := h2 k h; omega)⟩, by simp [intOf]; omega⟩
            · have hm' : (x.number == (n : Int)) = false := by simpa using hm
              have HNX' : Hid (hits (all.take (p + 1)) i n = hits (all.take p) i n) := by show _ = _; rw [HNX.out, if_neg (fun h => hm h.2)]
              clear HNX
              go_wp2_with fail
              exact ⟨⟨p + 1, f, v2, by go_num, by omega, rfl, (show _ = _ by rw [HNX'.out]; exact HF.out), by rw [HNX'.out]; exact hO2, hW2, hc2⟩, by simp [intOf]; omega⟩
          · have hs' : (x.session == (i : Int)) = false := by simpa using hs
            have HNX' : Hid (hits (all.take (p + 1)) i n = hits (all.take p) i n) := by show _ = _; rw [HNX.out, if_neg (fun h => hs h.1)]
            clear HNX
            go_wp2_with fail
            exact ⟨⟨p + 1, f, v2, by go_num, by omega, rfl, (show _ = _ by rw [HNX'.out]; exact HF.out), by rw [HNX'.out]; exact hO2, hW2, hc2⟩, by simp [intOf]; omega⟩
        · have hpl' : ¬ (p : Int) < (all.length : Int) := by omega
          have hall : all.take p = all := List.take_of_length_le (by omega)
          have hone := hits_one hN i n
          have hlt : n < (ofS all i).length := by omega
          rw [hall, hone] at HF hO2
          have hf : f = true := by
            rw [HF.out]
            simp
            omega
          rw [hf]
          have HL : Hid (ln ++ ((ofS all i).drop n).take 1 = ol ++ ((ofS all i).drop Bn).take (n + 1 - Bn)) := by
            show _ = _
            rw [hln, List.append_assoc, drop_take_next hn1]
          clear HF hone hall hf
          go_wp2_with fail
          exact ⟨⟨n + 1, v2, by go_num, by omega, by omega, by rw [← HL.out]; exact hO2, hW2, hc2⟩, by simp [intOf]; omega⟩
    · have hnb' : (n : Int) = b := by omega
      have hc0 := hO1.bs i hi
      have hf0 := hO1.fz (1 + i)
      have hlt := World.block_lt_of_cell? _ _ hO1.list
      have HE : Hid (ol ++ ((ofS all i).drop (B i).toNat).take (b - B i).toNat = ol ++ ((ofS all i).drop Bn).take (n - Bn)) := by
        show _ = _
        rw [HBN.out, ← hnb']
        congr 2
        omega
      go_wp2_with fail
      go_ret
      refine ⟨rfl, v1, ?_, hW1, hc1.setCell (p := ⟨ob, 1 + i, none⟩) (fun _ => .inl rfl) _⟩
      rw [HE.out]
      exact hO1.base hi b

end Go.Proofs.YtdoedjmdcmgddaaGreat
