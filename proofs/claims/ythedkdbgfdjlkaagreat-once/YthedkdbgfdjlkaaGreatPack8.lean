import Derived.Deep.CutRange
import Derived.Test.YthedkdbgfdjlkaaGreatPack1
import Derived.Test.YthedkdbgfdjlkaaGreatPack2
import Derived.Test.YthedkdbgfdjlkaaGreatPack3
import Derived.Test.YthedkdbgfdjlkaaGreatPack4
import Derived.Test.YthedkdbgfdjlkaaGreatPack5
import Derived.Test.YthedkdbgfdjlkaaGreatPack6
import Derived.Test.YthedkdbgfdjlkaaGreatPack7
/- Once: more, WALKED. -/
namespace Go.Proofs.YthedkdbgfdjlkaaGreat
set_option linter.unusedVariables false
set_option linter.unusedSimpArgs false
open Go.RowKit Go.Lib

/-- An order in memory: those that were taken, and the bases. -/
structure OrdAt (w : World) (ob lo : Nat) (vl : Value) (l : List Rec) (B : Nat → Int) : Prop where
  list : w.cell? ⟨ob, 0, none⟩ = some vl
  bs : ∀ j, j < 4 → w.cell? ⟨ob, 1 + j, none⟩ = some (.int .i64 (B j))
  fz : ∀ j, w.frozen? ⟨ob, j, none⟩ = false
  row : w.ownsRow lo 34 5 vl l.length (recCells l)
  ne : vl.ownBlock ≠ some ob

theorem OrdAt.chg {F : Nat → Prop} {w w' : World} {ob lo : Nat} {vl : Value} {l : List Rec} {B : Nat → Int} (h : OrdAt w ob lo vl l B) (hc : Chg F w w') (hb : ¬ F ob) (hv : ∀ k, vl.ownBlock = some k → ¬ F k) : OrdAt w' ob lo vl l B :=
  ⟨hc.cellAt h.list hb, fun j hj => hc.cellAt (h.bs j hj) hb, fun j => (World.frozen?_of_block (w := w) (hc.block ob (World.block_lt_of_cell? _ _ h.list) hb)).trans (h.fz j), hc.row' h.row hv, h.ne⟩

/-- Those of a session with a number. -/
def hits (all : List Rec) (i : Nat) (n : Int) : List Rec := all.filter (fun x => x.session == (i : Int) && x.number == n)

theorem filter_number : ∀ (A : List Rec) (k : Int) (n : Nat), (∀ (m : Nat) (x : Rec), A[m]? = some x → x.number = k + m) → A.filter (fun x => x.number == k + (n : Int)) = (A.drop n).take 1
  | [], k, n, _ => by simp
  | x :: r, k, 0, h => by
    have hx := h 0 x rfl
    have hr : r.filter (fun x => x.number == k + ((0 : Nat) : Int)) = [] := by
      refine List.filter_eq_nil_iff.2 (fun y hy => ?_)
      obtain ⟨m, hm, e⟩ := List.getElem_of_mem hy
      have := h (m + 1) y (by rw [List.getElem?_cons_succ, List.getElem?_eq_getElem hm, e])
      simp
      omega
    rw [List.filter_cons, hr]
    simp [hx]
  | x :: r, k, n + 1, h => by
    have hx := h 0 x rfl
    have ih := filter_number r (k + 1) n (fun m y hy => by
      have := h (m + 1) y (by rw [List.getElem?_cons_succ]; exact hy)
      omega)
    rw [List.filter_cons, if_neg (by simp; omega)]
    have e : k + ((n + 1 : Nat) : Int) = k + 1 + (n : Int) := by omega
    rw [e, ih]
    rfl

theorem hits_one {all : List Rec} (hN : Numbered all) (i n : Nat) : hits all i n = ((ofS all i).drop n).take 1 := by
  have h := filter_number (ofS all i) 0 n (fun m x hx => by rw [hN.num i m x hx]; omega)
  rw [← h]
  unfold hits ofS
  rw [List.filter_filter]
  congr 1
  funext x
  simp [Bool.and_comm]

theorem hits_take_next (all : List Rec) (i : Nat) (n : Int) (p : Nat) (x : Rec) (h : all[p]? = some x) : hits (all.take (p + 1)) i n = if x.session = i ∧ x.number = n then hits (all.take p) i n ++ [x] else hits (all.take p) i n := by
  obtain ⟨hl, e⟩ := List.getElem?_eq_some_iff.1 h
  unfold hits
  rw [List.take_succ_eq_append_getElem hl, e, List.filter_append]
  split
  · rename_i h; simp [h]
  · rename_i h
    have : ¬ (x.session == (i : Int) && x.number == n) = true := by simpa using h
    simp [List.filter_cons, this]

theorem drop_take_next {A : List Rec} {B n : Nat} (hB : B ≤ n) : (A.drop B).take (n - B) ++ (A.drop n).take 1 = (A.drop B).take (n + 1 - B) := by
  have e : n + 1 - B = (n - B) + 1 := by omega
  rw [e, List.take_add]
  congr 2
  rw [List.drop_drop]
  congr 1
  omega

/-- Where a list lies that was appended to. -/
def Wh (n : Nat) (v v' : Value) : Prop := v'.ownBlock = v.ownBlock ∨ ∀ k, v'.ownBlock = some k → n ≤ k

theorem Wh.refl (n : Nat) (v : Value) : Wh n v v := .inl rfl
theorem Wh.trans {n m : Nat} {a b c : Value} (h : Wh n a b) (h' : Wh m b c) (hn : n ≤ m) : Wh n a c := by
  rcases h' with h' | h'
  · rcases h with h | h
    · exact .inl (h'.trans h)
    · exact .inr fun k hk => h k (by rw [← h']; exact hk)
  · exact .inr fun k hk => Nat.le_trans hn (h' k hk)

theorem OrdAt.push {w w1 : World} {ob lo : Nat} {vl v' : Value} {l : List Rec} {B : Nat → Int} (h : OrdAt w ob lo vl l B) (o : Obj) (x : Rec) (hown : w1.ownsRow lo 34 5 v' (l.length + 1) (recCells l ++ x.cells)) (hg : (w.alloc o).drew.grownBy w1 vl.ownBlock) (hw : v'.ownBlock = vl.ownBlock ∨ ∀ k, v'.ownBlock = some k → (w.alloc o).drew.heap.size ≤ k) :
    OrdAt (w1.setCell ⟨ob, 0, none⟩ v') ob lo v' (l ++ [x]) B ∧ Wh w.heap.size vl v' ∧ Chg (fun k => k = ob ∨ vl.ownBlock = some k) w (w1.setCell ⟨ob, 0, none⟩ v') := by
  have hlt := World.block_lt_of_cell? _ _ h.list
  have e : (w.alloc o).drew.heap.size = w.heap.size + 1 := World.size_alloc _ _
  have c1 : Chg (fun k => vl.ownBlock = some k) w w1 := ((Chg.refl (fun k => vl.ownBlock = some k) w).alloc o).trans (G := fun k => vl.ownBlock = some k) ⟨hg.os, hg.tape, hg.output, hg.size, fun k hk hne' => hg.block k hk (fun h => hne' h.symm)⟩ (fun _ _ h => h)
  have c2 : Chg (fun k => k = ob) w1 (w1.setCell ⟨ob, 0, none⟩ v') := Chg.setCell (p := ⟨ob, 0, none⟩) (Chg.refl (fun k => k = ob) w1) (fun _ => rfl) _
  have hb : v'.ownBlock ≠ some ob := by
    rcases hw with hw | hw
    · rw [hw]; exact h.ne
    · intro hk; have := hw _ hk; simp only at hlt; omega
  refine ⟨⟨World.cell?_setCell_same _ _ _ (c1.cellAt h.list h.ne), fun j hj => (World.cell?_setCell_other _ _ _ _ (by simp)).trans (c1.cellAt (h.bs j hj) h.ne), fun j => ?_, ?_, hb⟩, ?_, ?_⟩
  · rw [World.frozen?_setCell]
    exact (World.frozen?_of_block (w := w) (c1.block ob hlt h.ne)).trans (h.fz j)
  · have := c2.row' hown (fun k hk hf => hb (by rw [← hf]; exact hk))
    rw [recCells_append]
    simpa [recCells] using this
  · rcases hw with hw | hw
    · exact .inl hw
    · exact .inr fun k hk => by have := hw k hk; omega
  · exact (c1.mono (fun k hk => .inr hk)).trans c2 (fun k _ hk => .inl hk)

theorem OrdAt.base {w : World} {ob lo : Nat} {vl : Value} {l : List Rec} {B : Nat → Int} (h : OrdAt w ob lo vl l B) {i : Nat} (hi : i < 4) (b : Int) : OrdAt (w.setCell ⟨ob, 1 + i, none⟩ (.int .i64 b)) ob lo vl l (fun j => if j = i then b else B j) := by
  have c : Chg (fun k => k = ob) w (w.setCell ⟨ob, 1 + i, none⟩ (.int .i64 b)) := Chg.setCell (p := ⟨ob, 1 + i, none⟩) (Chg.refl (fun k => k = ob) w) (fun _ => rfl) _
  refine ⟨(World.cell?_setCell_other _ _ _ _ (by simp <;> omega)).trans h.list, fun j hj => ?_, fun j => by rw [World.frozen?_setCell]; exact h.fz j, c.row' h.row (fun k hk hf => h.ne (by rw [← hf]; exact hk)), h.ne⟩
  by_cases e : j = i
  · subst e
    rw [World.cell?_setCell_same _ _ _ (h.bs j hj)]
    simp
  · rw [World.cell?_setCell_other _ _ _ _ (by simp <;> omega), h.bs j hj]
    simp [e]

set_option maxRecDepth 100000 in
set_option maxHeartbeats 4000000 in
theorem more_any {w : World} {ob lo la : Nat} {vl va : Value} {ol all : List Rec} {B : Nat → Int} {i : Nat} {b : Int} (hi : i < 4) (hO : OrdAt w ob lo vl ol B) (ra : w.ownsRow la 34 5 va all.length (recCells all)) (hae : va.ownBlock ≠ some ob) (hsep : ∀ g, va.ownBlock = some g → vl.ownBlock ≠ some g) (hlo : lo ≤ w.heap.size)
    (hN : Numbered all) (h0 : 0 ≤ B i) (h1 : B i ≤ b) (h2 : b ≤ B i + 4) (h3 : b ≤ (ofS all i).length) (hol : ol.length ≤ 900) :
    Calls Tryz.prog 12 #[.pointer (some ⟨ob, 0, none⟩), va, .int .i64 i, .int .i64 b] w fun e w' => e = .returned (.bool true) ∧ ∃ vl', OrdAt w' ob lo vl' (ol ++ ((ofS all i).drop (B i).toNat).take (b - B i).toNat) (fun j => if j = i then b else B j) ∧ Wh w.heap.size vl vl' ∧ Chg (fun k => k = ob ∨ vl.ownBlock = some k) w w' := by
  obtain ⟨i0, hi0, hz0, hz1, hz2⟩ := info_parts Tryz.infoR
  obtain ⟨pa, ca, rfl⟩ := row_any ra
  have hi' : (i : Int) < 4 := by omega
  have hBi := hO.bs i hi
  have hsl : (ofS all i).length ≤ all.length := List.length_filter_le _ _
  have hfew := hN.few
  obtain ⟨Bn, hBn⟩ : ∃ Bn : Nat, B i = Bn := ⟨(B i).toNat, by omega⟩
  rw [hBn] at hBi h0 h1 h2
  have HBN : Hid (B i = Bn) := hBn
  have hb0 : 0 ≤ b ∧ b ≤ 1000 := by omega
  clear hBn
  go_enter Tryz.func12, Tryz.ntmps12
  go_wp2_with fail
  go_loopw [9, 10, 11] (fun sn _ _ wr => ∃ (n : Nat) (vl' : Value), sn = .int .i64 n ∧ Bn ≤ n ∧ (n : Int) ≤ b ∧ OrdAt wr ob lo vl' (ol ++ ((ofS all i).drop Bn).take (n - Bn)) B ∧ Wh w.heap.size vl vl' ∧ Chg (fun k => k = ob ∨ vl.ownBlock = some k) w wr) (fun sn _ _ _ => b.toNat - (intOf sn).toNat)
  case atStart => exact ⟨Bn, vl, rfl, by omega, by omega, by simpa using hO, Wh.refl _ _, Chg.refl _ _⟩
  case round =>
    obtain ⟨n, v1, rfl, hn1, hn2, hO1, hW1, hc1⟩ := hrel
    clear hBi
    by_cases hnb : (n : Int) < b
    · obtain ⟨ln, hln⟩ : ∃ ln, ln = ol ++ ((ofS all i).drop Bn).take (n - Bn) := ⟨_, rfl⟩
      have hll : ln.length ≤ 910 := by
        rw [hln]
        simp only [List.length_append, List.length_take, List.length_drop]
        omega
      rw [← hln] at hO1
      go_wp2_with fail
      go_loopw [10, 11] (fun sf sp wq => ∃ (p : Nat) (f : Bool) (v2 : Value), sp = .int .i64 p ∧ p ≤ all.length ∧ sf = .bool f ∧ Hid (f = decide (0 < (hits (all.take p) i n).length)) ∧ OrdAt wq ob lo v2 (ln ++ hits (all.take p) i n) B ∧ Wh w.heap.size vl v2 ∧ Chg (fun k => k = ob ∨ vl.ownBlock = some k) w wq) (fun _ sp _ => all.length - (intOf sp).toNat)
      case atStart => exact ⟨0, false, v1, rfl, by omega, rfl, (show _ = _ by simp [hits]), by simpa [hits] using hO1, hW1, hc1⟩
      case round =>
        obtain ⟨p, f, v2, rfl, hp, rfl, HF, hO2, hW2, hc2⟩ := hrel
        by_cases hpl : p < all.length
        · have hpl' : (p : Int) < (all.length : Int) := by omega
          obtain ⟨x, hx⟩ : ∃ x, all[p]? = some x := ⟨_, List.getElem?_eq_getElem hpl⟩
          have ra2 := hc2.row' ra (fun k hk hf => by
            rcases hf with hf | hf
            · exact hae (by rw [← hf]; exact hk)
            · exact hsep k hk hf)
          obtain ⟨ga, ca', hva, _, _, hcell⟩ := row_pos ra2 (by omega)
          simp only [Value.slice.injEq] at hva
          obtain ⟨rfl, _, rfl⟩ := hva
          have cx := recCells_at all p x hx
          have m0 := hcell _ _ cx.1
          have m1 := hcell _ _ cx.2.1
          have m2 := hcell _ _ cx.2.2.1
          have m3 := hcell _ _ cx.2.2.2.1
          have m4 := hcell _ _ cx.2.2.2.2
          have hnx := hits_take_next all i n p x hx
          have hhl : (hits (all.take p) i n).length ≤ 900 := by
            have : (hits (all.take p) i n).length ≤ (all.take p).length := List.length_filter_le _ _
            simp only [List.length_take] at this
            omega
          have HNX : Hid (hits (all.take (p + 1)) i n = if x.session = i ∧ x.number = n then hits (all.take p) i n ++ [x] else hits (all.take p) i n) := hnx
          clear hcell cx hnx
          by_cases hs : x.session = i
          · rw [hs] at m0
            by_cases hm : x.number = n
            · rw [hm] at m2
              have HNX' : Hid (hits (all.take (p + 1)) i n = hits (all.take p) i n ++ [x]) := by show _ = _; rw [HNX.out, if_pos ⟨hs, hm⟩]
              obtain ⟨l2, hl2⟩ : ∃ l2, l2 = ln ++ hits (all.take p) i n := ⟨_, rfl⟩
              have HL2 : Hid (l2 ++ [x] = ln ++ hits (all.take (p + 1)) i n) := by show _ = _; rw [hl2, HNX'.out, List.append_assoc]
              have hl2l : l2.length ≤ 2000 := by rw [hl2, List.length_append]; omega
              rw [← hl2] at hO2
              have HX : Hid (x.cells = [.int .i64 i, .int .i64 x.epoch, .int .i64 n, .string x.key, .int .i64 x.value]) := by show _ = _; unfold Rec.cells; rw [hs, hm]
              have HF' : Hid (true = decide (0 < (hits (all.take (p + 1)) i n).length)) := by show _ = _; rw [HNX'.out]; simp
              clear HNX hl2 hs hm HNX' HF
              obtain ⟨q, cap, rfl⟩ := row_any hO2.row
              have s1 : Hid (∀ j u, x.cells[j]? = some u → ((wr.alloc (.cells #[.int .i64 i, .int .i64 x.epoch, .int .i64 n, .string x.key, .int .i64 x.value] 34)).drew).cell? ((⟨wr.heap.size, 0, none⟩ : Addr).add j) = some u) := by
                intro j u hj
                rw [HX.out] at hj
                match j, hj with
                | 0, hj => simp at hj; subst hj; simp [Addr.add]
                | 1, hj => simp at hj; subst hj; simp [Addr.add]
                | 2, hj => simp at hj; subst hj; simp [Addr.add]
                | 3, hj => simp at hj; subst hj; simp [Addr.add]
                | 4, hj => simp at hj; subst hj; simp [Addr.add]
                | k + 5, hj => simp at hj
              have s2 : Hid (∀ u ∈ x.cells, u.oneCell' = true) := by
                intro u hu
                simp [Rec.cells] at hu
                rcases hu with rfl | rfl | rfl | rfl | rfl <;> rfl
              have s3 : Hid (l2.length + 1 ≤ maxLen) := by show _ ≤ maxLen; unfold maxLen; omega
              have s4 : Hid ((l2.length + 1) * 48 ≤ 140737488355328) := by show _ ≤ _; omega
              have s5 : Hid (lo ≤ ((wr.alloc (.cells #[.int .i64 i, .int .i64 x.epoch, .int .i64 n, .string x.key, .int .i64 x.value] 34)).drew).heap.size) := by show lo ≤ (wr.alloc _).heap.size; rw [World.size_alloc]; have := hc2.size; omega
              have s6 : Hid (∀ (v' : Value) (w1 : World), w1.ownsRow lo 34 5 v' (l2.length + 1) (recCells l2 ++ x.cells) → (wr.alloc (.cells #[.int .i64 i, .int .i64 x.epoch, .int .i64 n, .string x.key, .int .i64 x.value] 34)).drew.grownBy w1 (Value.slice q l2.length cap).ownBlock → (v'.ownBlock = (Value.slice q l2.length cap).ownBlock ∨ ∀ k, v'.ownBlock = some k → (wr.alloc (.cells #[.int .i64 i, .int .i64 x.epoch, .int .i64 n, .string x.key, .int .i64 x.value] 34)).drew.heap.size ≤ k) → w1.cell? ⟨ob, 0, none⟩ = some (.slice q l2.length cap) ∧ w1.frozen? ⟨ob, 0, none⟩ = false ∧ Hid (OrdAt (w1.setCell ⟨ob, 0, none⟩ v') ob lo v' (l2 ++ [x]) B ∧ Wh wr.heap.size (.slice q l2.length cap) v' ∧ Chg (fun k => k = ob ∨ (Value.slice q l2.length cap).ownBlock = some k) wr (w1.setCell ⟨ob, 0, none⟩ v'))) := by
                intro v' w1 hown hg hw
                have hlt := World.block_lt_of_cell? _ _ hO2.list
                have hb := hg.block ob (by show ob < (wr.alloc _).heap.size; rw [World.size_alloc]; simp only at hlt; omega) (fun h => hO2.ne h.symm)
                have hb' : w1.heap[ob]? = wr.heap[ob]? := hb.trans (Below.heap_alloc _ _ _ hlt)
                exact ⟨(World.cell?_of_block (w := wr) hb').trans hO2.list, (World.frozen?_of_block (w := wr) hb').trans (hO2.fz 0), hO2.push _ x hown hg hw⟩
              have hpa : (wr.alloc (.cells #[.int .i64 i, .int .i64 x.epoch, .int .i64 n, .string x.key, .int .i64 x.value] 34)).cell? ⟨ob, 0, none⟩ = some (.slice q l2.length cap) := (World.cell?_alloc_lt wr _ _ (World.block_lt_of_cell? _ _ hO2.list)).trans hO2.list
              have hp0 := hO2.list
              go_wp2_with fail
              go_region_law (refine step_append_own rfl (.tmp 68) (.tmp 73) 27 rfl lo 34 i0 _ 5 48 Tryz.underlying27 hi0 hz0 hz1 hz2 rfl (by decide) _ l2.length (recCells l2) (by simp [Act.eval, Act.put]) (hO2.row.alloc _) ⟨wr.heap.size, 0, none⟩ 1 1 x.cells (by simp [Act.eval, Act.put]) rfl s1.out s2.out s3.out s4.out s5.out ?_; intro v' w1 hown hgrow hwhere; obtain ⟨q', cap', rfl⟩ := row_any hown; obtain ⟨hp1, hz1', hh⟩ := s6.out (.slice q' (l2.length + 1) cap') w1 hown hgrow hwhere)
              all_goals
                go_wp2_with fail
                exact ⟨⟨p + 1, true, .slice q' (l2.length + 1) cap', by go_num, by omega, rfl, HF', by rw [← HL2.out]; exact hh.out.1, hW2.trans hh.out.2.1 hc2.size, hc2.trans hh.out.2.2 (fun k hk h => by
                  rcases h with h | h
                  · exact .inl h
                  · rcases hW2 with h2 | h2
                    · exact .inr (by rw [← h2]; exact h)
                    · have := h2 k h; omega)⟩, by simp [intOf]; omega⟩
            · have hm' : (x.number == (n : Int)) = false := by simpa using hm
              have HNX' : Hid (hits (all.take (p + 1)) i n = hits (all.take p) i n) := by show _ = _; rw [HNX.out, if_neg (fun h => hm h.2)]
              clear HNX
              go_wp2_with fail
              exact ⟨⟨p + 1, f, v2, by go_num, by omega, rfl, (show _ = _ by rw [HNX'.out]; exact HF.out), by rw [HNX'.out]; exact hO2, hW2, hc2⟩, by simp [intOf]; omega⟩
          · have hs' : (x.session == (i : Int)) = false := by simpa using hs
            have HNX' : Hid (hits (all.take (p + 1)) i n = hits (all.take p) i n) := by show _ = _; rw [HNX.out, if_neg (fun h => hs h.1)]
            clear HNX
            go_wp2_with fail
            exact ⟨⟨p + 1, f, v2, by go_num, by omega, rfl, (show _ = _ by rw [HNX'.out]; exact HF.out), by rw [HNX'.out]; exact hO2, hW2, hc2⟩, by simp [intOf]; omega⟩
        · have hpl' : ¬ (p : Int) < (all.length : Int) := by omega
          have hall : all.take p = all := List.take_of_length_le (by omega)
          have hone := hits_one hN i n
          have hlt : n < (ofS all i).length := by omega
          rw [hall, hone] at HF hO2
          have hf : f = true := by
            rw [HF.out]
            simp
            omega
          rw [hf]
          have HL : Hid (ln ++ ((ofS all i).drop n).take 1 = ol ++ ((ofS all i).drop Bn).take (n + 1 - Bn)) := by
            show _ = _
            rw [hln, List.append_assoc, drop_take_next hn1]
          clear HF hone hall hf
          go_wp2_with fail
          exact ⟨⟨n + 1, v2, by go_num, by omega, by omega, by rw [← HL.out]; exact hO2, hW2, hc2⟩, by simp [intOf]; omega⟩
    · have hnb' : (n : Int) = b := by omega
      have hc0 := hO1.bs i hi
      have hf0 := hO1.fz (1 + i)
      have hlt := World.block_lt_of_cell? _ _ hO1.list
      have HE : Hid (ol ++ ((ofS all i).drop (B i).toNat).take (b - B i).toNat = ol ++ ((ofS all i).drop Bn).take (n - Bn)) := by
        show _ = _
        rw [HBN.out, ← hnb']
        congr 2
        omega
      go_wp2_with fail
      go_ret
      refine ⟨rfl, v1, ?_, hW1, hc1.setCell (p := ⟨ob, 1 + i, none⟩) (fun _ => .inl rfl) _⟩
      rw [HE.out]
      exact hO1.base hi b

end Go.Proofs.YthedkdbgfdjlkaaGreat

/- Once: sums, WALKED. -/
namespace Go.Proofs.YthedkdbgfdjlkaaGreat
set_option linter.unusedVariables false
set_option linter.unusedSimpArgs false
open Go.RowKit Go.Lib

variable {R : World → Addr → Option St → (Nat → Prop) → Prop}

theorem OInv.short {all ol : List Rec} {s : St} (h : OInv all ol s) (hn : Numbered all) : ol.length ≤ 900 := by
  have h1 := h.total hn
  have h2 := h.whole
  have h3 := (waits_ge (ls := s.lanes)).1
  have h4 := hn.few
  unfold St.records at h1
  omega

set_option maxRecDepth 100000 in
set_option maxHeartbeats 4000000 in
theorem sums_any (H : Api R) {w : World} {a : Addr} {s : St} {F : Nat → Prop} (hR : R w a (some s) F) {lo : Nat} {vl : Value} {ol all : List Rec} (row : w.ownsRow lo 34 5 vl ol.length (recCells ol)) (hsep : ∀ k, vl.ownBlock = some k → ¬ F k) (hI : OInv all ol s) (hN : Numbered all) :
    Calls Tryz.prog 13 #[.pointer (some a), vl] w fun e w' => e = .returned (.bool true) ∧ R w' a (some s) F ∧ Chg F w w' := by
  obtain ⟨pl, cl, rfl⟩ := row_any row
  have hol := hI.short hN
  have hf := H.fine hR
  have hsm := hf.small
  go_enter Tryz.func13, Tryz.ntmps13
  go_wp2_with fail
  refine (H.state hR).mono ?_
  rintro _ w3 ⟨vs, vk, rfl, hs3, hR3, c3⟩
  simp only [errno?, state?] at hs3 ⊢
  obtain ⟨us, hu1, hu2, hu3⟩ := hs3.sess
  have hk3 := hs3.keys
  obtain ⟨ps, cs, rfl⟩ := row_any hu2
  obtain ⟨pk, ck, rfl⟩ := row_any hk3
  clear hu1 hu2 hu3
  obtain ⟨W3, hW3⟩ : ∃ W3, W3 = w3.alloc (Obj.cells #[.slice ps s.lanes.length cs, .slice pk s.keys.length ck] 49) := ⟨_, rfl⟩
  have c33 : Chg (fun _ => False) w3 W3 := by rw [hW3]; exact (Chg.refl _ w3).alloc _
  have b1 : W3.cell? ⟨w3.heap.size, 1, none⟩ = some (.slice pk s.keys.length ck) := by rw [hW3]; exact World.cell?_alloc_at _ _ _ _ rfl
  have hk4 := c33.row' hk3 (fun _ _ h => h)
  have row4 := c33.row' (c3.row' row hsep) (fun _ _ h => h)
  have hR4 := H.keep hR3 c33
  have cw : Chg F w W3 := c3.trans c33 (fun _ _ h => h.elim)
  have hup := counts_upto (ks := s.keys) (fun k hk => (hf.key k hk).1)
  go_wp2_with fail
  rw [← hW3]
  clear hW3 hs3 hk3 c3 c33 hR3 hR row
  go_loopw [7, 8, 9, 10, 11] (fun sn si _ _ _ wr => ∃ (j : Nat) (m : Int), si = .int .i64 j ∧ j ≤ s.keys.length ∧ sn = .int .i64 m ∧ Hid (m = counts (s.keys.take j)) ∧ Chg (fun _ => False) W3 wr) (fun _ si _ _ _ _ => s.keys.length - (intOf si).toNat)
  case atStart => exact ⟨0, 0, rfl, by omega, rfl, (show _ = _ by simp [counts]), Chg.refl _ _⟩
  case round =>
    obtain ⟨j, m, rfl, hj, rfl, HM, hcj⟩ := hrel
    have e1 := hcj.cellAt b1 id
    by_cases hjl : j < s.keys.length
    · obtain ⟨q, hq⟩ : ∃ q, s.keys[j]? = some q := ⟨_, List.getElem?_eq_getElem hjl⟩
      have hqm := List.mem_of_getElem? hq
      have cx := keyCells_at s.keys j q hq
      obtain ⟨gk, capk, hvk, _, _, hck⟩ := row_pos hk4 (by omega)
      simp only [Value.slice.injEq] at hvk
      obtain ⟨rfl, _, rfl⟩ := hvk
      have m0 := hcj.cellAt (hck _ _ cx.1) id
      have m1 := hcj.cellAt (hck _ _ cx.2.1) id
      have m2 := hcj.cellAt (hck _ _ cx.2.2.1) id
      have m3 := hcj.cellAt (hck _ _ cx.2.2.2) id
      obtain ⟨kn, kc, kf⟩ := hI.key hN hqm
      have hq1 := (hf.key q hqm).1
      have hjl' : (j : Int) < (s.keys.length : Int) := by omega
      have hnx := counts_next s.keys j q hq
      have hn1 := hup j
      have hn2 := hup (j + 1)
      have hmx : 0 ≤ m ∧ m ≤ 1000 ∧ 0 ≤ m + q.count ∧ m + q.count ≤ 1000 := by rw [HM.out]; omega
      have HNX : Hid (counts (s.keys.take (j + 1)) = counts (s.keys.take j) + q.count) := hnx
      have KC : Hid (q.count = (tally q.name ol).1) := kc
      have KF : Hid (q.fold = (tally q.name ol).2) := kf
      clear hck cx hnx hn1 hn2 kc kf
      obtain ⟨W5, hW5⟩ : ∃ W5, W5 = wr.alloc (Obj.cells #[.string q.name, .int .i64 q.count, .int .i64 q.fold, .int .i64 q.held] 57) := ⟨_, rfl⟩
      have c5 : Chg (fun _ => False) wr W5 := by rw [hW5]; exact (Chg.refl _ wr).alloc _
      have z0 : W5.cell? ⟨wr.heap.size, 0, none⟩ = some (.string q.name) := by rw [hW5]; exact World.cell?_alloc_at _ _ _ _ rfl
      have z1 : W5.cell? ⟨wr.heap.size, 1, none⟩ = some (.int .i64 q.count) := by rw [hW5]; exact World.cell?_alloc_at _ _ _ _ rfl
      have z2 : W5.cell? ⟨wr.heap.size, 2, none⟩ = some (.int .i64 q.fold) := by rw [hW5]; exact World.cell?_alloc_at _ _ _ _ rfl
      have row5 := c5.row' (hcj.row' row4 (fun _ _ h => h)) (fun _ _ h => h)
      go_wp2_with fail
      rw [← hW5]
      clear hW5 m0 m1 m2 m3 e1
      go_loopw [10, 11] (fun sc sp wq => ∃ (p : Nat) (c : Int), sp = .int .i64 p ∧ p ≤ ol.length ∧ sc = .int .i64 c ∧ Hid (c = (tally q.name (ol.take p)).1) ∧ Chg (fun _ => False) W5 wq) (fun _ sp _ => ol.length - (intOf sp).toNat)
      case atStart => exact ⟨0, 0, rfl, by omega, rfl, (show _ = _ from rfl), Chg.refl _ _⟩
      case round =>
        obtain ⟨p, c, rfl, hp, rfl, HC, hcp⟩ := hrel
        have y0 := hcp.cellAt z0 id
        have y1 := hcp.cellAt z1 id
        have y2 := hcp.cellAt z2 id
        have hle := tally_take_le q.name ol p
        rw [← HC.out] at hle
        have hcr : 0 ≤ c ∧ c ≤ 900 := by omega
        clear hle
        by_cases hpl : p < ol.length
        · obtain ⟨x, hx⟩ : ∃ x, ol[p]? = some x := ⟨_, List.getElem?_eq_getElem hpl⟩
          obtain ⟨gl, capl, hvl, _, _, hcl⟩ := row_pos row5 (by omega)
          simp only [Value.slice.injEq] at hvl
          obtain ⟨rfl, _, rfl⟩ := hvl
          have x3 := hcp.cellAt (hcl _ _ (recCells_at ol p x hx).2.2.2.1) id
          have hpl' : (p : Int) < (ol.length : Int) := by omega
          have hnx := tally_take_next q.name ol p x hx
          clear hcl
          by_cases hke : x.key = q.name
          · have HC' : Hid (c + 1 = (tally q.name (ol.take (p + 1))).1) := by
              show _ = _
              rw [hnx, HC.out]; unfold tallyOne; rw [if_pos hke]
            rw [hke] at x3
            clear hnx hke HC
            go_wp2_with fail
            go_quiet (fail)
            go_wp2_with fail
            exact ⟨⟨p + 1, c + 1, by go_num, by omega, rfl, HC', hcp.trans (((Quiet.refl _).drewN _).chg _) (fun _ _ h => h)⟩, by simp [intOf]; omega⟩
          · have HC' : Hid (c = (tally q.name (ol.take (p + 1))).1) := by
              show _ = _
              rw [hnx, HC.out]; unfold tallyOne; rw [if_neg hke]
            have hkn : (x.key.toList == q.name.toList) = false := by
              rw [beq_eq_false_iff_ne]
              intro e
              rw [ByteArray.toList_eq, ByteArray.toList_eq] at e
              exact hke (ByteArray.ext (Array.toList_inj.1 e))
            clear hnx hke HC
            go_wp2_with fail
            go_quiet (fail)
            go_wp2_with fail
            exact ⟨⟨p + 1, c, by go_num, by omega, rfl, HC', hcp.trans (((Quiet.refl _).drewN _).chg _) (fun _ _ h => h)⟩, by simp [intOf]; omega⟩
        · have hpl' : ¬ (p : Int) < (ol.length : Int) := by omega
          have hcq : c = q.count := by rw [HC.out, KC.out, List.take_of_length_le (by omega)]
          rw [hcq]
          clear HC hcq hcr
          have hkf : ∀ k, Calls Tryz.prog 22 #[.slice pl ol.length cl, .string q.name, .int .i64 q.count] (wr.drewN k) fun e w' => e = .returned (.int .i64 q.fold) ∧ w' = wr.drewN k := fun k => by
            have := kfold_any (key := q.name) ((hcp.trans (((Quiet.refl wr).drewN k).chg _) (fun _ _ h => h)).row' row5 (fun _ _ h => h)) kn hol (fun x hx => by have := hN.each x (hI.sub x hx); exact this.2.2.2.2)
            rw [← KC.out, ← KF.out] at this
            exact this
          have hq0 : (q.count == 0) = false := by simp; omega
          have hne : (q.name.toList == ([] : List UInt8)) = false := by
            rw [beq_eq_false_iff_ne, ByteArray.toList_eq]
            simp only [names4, List.mem_cons, List.not_mem_nil, or_false] at kn
            rcases kn with e | e | e | e <;> rw [e] <;> simp [kC, kS, kL, kM]
          go_wp2_with fail
          go_quiet (first | (go_at_call 22; refine Calls.quiet_of_same (hkf _)))
          go_wp2_with fail
          exact ⟨⟨j + 1, m + q.count, by go_num, by omega, rfl, (show _ = _ by rw [HNX.out, HM.out]), (hcj.trans (c5.trans hcp (fun _ _ h => h)) (fun _ _ h => h)).trans (((Quiet.refl _).drewN _).chg _) (fun _ _ h => h)⟩, by simp [intOf]; omega⟩
    · have hjl' : ¬ (j : Int) < (s.keys.length : Int) := by omega
      have hm : m = (ol.length : Int) := by rw [HM.out, List.take_of_length_le (by omega), hI.whole]
      rw [hm]
      clear HM hm
      go_wp2_with fail
      go_ret
      exact ⟨by simp, H.keep hR4 hcj, cw.trans hcj (fun _ _ h => h.elim)⟩

end Go.Proofs.YthedkdbgfdjlkaaGreat

/- Once: what holds from call to call. -/
namespace Go.Proofs.YthedkdbgfdjlkaaGreat
set_option linter.unusedVariables false
set_option linter.unusedSimpArgs false
open Go.RowKit Go.Lib

variable {R : World → Addr → Option St → (Nat → Prop) → Prop}

/-- The relay, the order and the records beside one another. -/
structure Half (R : World → Addr → Option St → (Nat → Prop) → Prop) (w : World) (a : Addr) (ob lo : Nat) (va vl : Value) (all ol : List Rec) (s : St) (F : Nat → Prop) (B : Nat → Int) : Prop where
  rel : R w a (some s) F
  ord : OrdAt w ob lo vl ol B
  row : w.ownsRow lo 34 5 va all.length (recCells all)
  fo : ¬ F ob
  fl : ∀ k, vl.ownBlock = some k → ¬ F k
  fa : ∀ k, va.ownBlock = some k → ¬ F k
  ao : va.ownBlock ≠ some ob
  sep : ∀ g, va.ownBlock = some g → vl.ownBlock ≠ some g
  lo : lo ≤ w.heap.size

theorem Half.keep (H : Api R) {w w' : World} {a : Addr} {ob lo : Nat} {va vl : Value} {all ol : List Rec} {s : St} {F : Nat → Prop} {B : Nat → Int} (h : Half R w a ob lo va vl all ol s F B) (c : Chg (fun _ => False) w w') : Half R w' a ob lo va vl all ol s F B :=
  ⟨H.keep h.rel c, h.ord.chg c id (fun _ _ h => h), c.row' h.row (fun _ _ h => h), h.fo, h.fl, h.fa, h.ao, h.sep, Nat.le_trans h.lo c.size⟩

theorem Half.accept {w w' : World} {a : Addr} {ob lo : Nat} {va vl : Value} {all ol : List Rec} {s s' : St} {F F' : Nat → Prop} {B : Nat → Int} (h : Half R w a ob lo va vl all ol s F B) (c : Chg F w w') (hF : ∀ k, F' k → F k ∨ w.heap.size ≤ k) (hR : R w' a (some s') F') : Half R w' a ob lo va vl all ol s' F' B := by
  have hob : ob < w.heap.size := World.block_lt_of_cell? _ _ h.ord.list
  refine ⟨hR, h.ord.chg c h.fo h.fl, c.row' h.row h.fa, fun hk => ?_, fun k hk hf => ?_, fun k hk hf => ?_, h.ao, h.sep, Nat.le_trans h.lo c.size⟩
  · rcases hF _ hk with e | e
    · exact h.fo e
    · omega
  · rcases hF _ hf with e | e
    · exact h.fl k hk e
    · have := (h.ord.row.lt k hk).2; omega
  · rcases hF _ hf with e | e
    · exact h.fa k hk e
    · have := (h.row.lt k hk).2; omega

theorem Half.more (H : Api R) {w w' : World} {a : Addr} {ob lo : Nat} {va vl vl' : Value} {all ol ol' : List Rec} {s : St} {F : Nat → Prop} {B B' : Nat → Int} (h : Half R w a ob lo va vl all ol s F B) (ho : OrdAt w' ob lo vl' ol' B') (hW : Wh w.heap.size vl vl') (c : Chg (fun k => k = ob ∨ vl.ownBlock = some k) w w') : Half R w' a ob lo va vl' all ol' s F B' := by
  refine ⟨H.stable h.rel (fun k hk => c.block k (H.lt h.rel hk) (fun e => ?_)), ho, c.row' h.row (fun k hk e => ?_), h.fo, fun k hk hf => ?_, h.fa, h.ao, fun g hg hv => ?_, Nat.le_trans h.lo c.size⟩
  · rcases e with e | e
    · exact h.fo (by rw [← e]; exact hk)
    · exact h.fl k e hk
  · rcases e with e | e
    · exact h.ao (by rw [← e]; exact hk)
    · exact h.sep k hk e
  · rcases hW with e | e
    · exact h.fl k (by rw [← e]; exact hk) hf
    · have := e k hk
      have := H.lt h.rel hf
      omega
  · rcases hW with e | e
    · exact h.sep g hg (by rw [← e]; exact hv)
    · have := e g hv
      have := (h.row.lt g hg).2
      omega

/-- What is young stays so. -/
theorem young_more {w0 w w' : World} {ob : Nat} {vl : Value} {ol : List Rec} {B : Nat → Int} (h : Chg (fun _ => False) w0 w) (ho : OrdAt w ob w0.heap.size vl ol B) (hob : w0.heap.size ≤ ob) (c : Chg (fun k => k = ob ∨ vl.ownBlock = some k) w w') : Chg (fun _ => False) w0 w' :=
  h.step c (fun k hk => by
    rcases hk with e | e
    · omega
    · exact (ho.row.lt k e).1)

def basesOf (s : St) (B : Nat → Int) : Prop := ∀ (j : Nat) (l : Ln), s.lanes[j]? = some l → l.base = B j

theorem Took.bases {all ol : List Rec} {s : St} {i : Nat} {l : Ln} {x : Rec} {b : Int} (h : Took all ol s i l x b) {B : Nat → Int} (hB : basesOf s B) : basesOf (accept s x).2 (fun j => if j = i then b else B j) := by
  intro j l' hl'
  by_cases e : j = i
  · subst e
    obtain ⟨l2, h1, h2⟩ := h.here
    rw [h1] at hl'
    have := Option.some.inj hl'
    subst this
    simp [h2]
  · rw [h.there j e] at hl'
    simp [e]
    exact hB j l' hl'

theorem numbered_at {all : List Rec} (hN : Numbered all) {p : Nat} {x : Rec} (hx : all[p]? = some x) {i : Nat} (hi : x.session = i) : x.number = (ofS (all.take p) i).length := by
  obtain ⟨hl, e⟩ := List.getElem?_eq_some_iff.1 hx
  have h1 : all = all.take p ++ x :: all.drop (p + 1) := by
    conv => lhs; rw [← List.take_append_drop p all]
    rw [List.drop_eq_getElem_cons hl, e]
  refine hN.num i _ x ?_
  conv => lhs; arg 1; rw [h1]
  unfold ofS
  rw [List.filter_append, List.getElem?_append_right (Nat.le_refl _), Nat.sub_self, List.filter_cons, if_pos (by simp [hi])]
  rfl

theorem ofS_take_next {all : List Rec} {p : Nat} {x : Rec} (hx : all[p]? = some x) (j : Nat) : (ofS (all.take (p + 1)) j).length = (ofS (all.take p) j).length + if x.session = j then 1 else 0 := by
  obtain ⟨hl, e⟩ := List.getElem?_eq_some_iff.1 hx
  rw [List.take_succ_eq_append_getElem hl, e, ofS_snoc]
  split <;> simp

theorem basesOf_init : basesOf St.init (fun _ => 0) := by
  intro j l h
  have := List.mem_of_getElem? h
  simp [St.init] at this
  subst this
  rfl

/-- A list of numbers in memory. -/
structure IntsAt (w : World) (v : Value) (P : List Int) : Prop where
  val : ∃ p cap, v = .slice p P.length cap
  len : P.length ≤ 9223372036854775807
  cells : ∀ i x, P[i]? = some x → ∃ sb so cap, v = .slice (some ⟨sb, so, none⟩) P.length cap ∧ w.cell? ⟨sb, so + i, none⟩ = some (.int .i64 x)
  fits : ∀ x ∈ P, inInt x

end Go.Proofs.YthedkdbgfdjlkaaGreat

/- LISTS OF SENT ONES AND OF NUMBERS AS ARGUMENTS, OPENED. -/
namespace Go.Proofs.YthedkdbgfdjlkaaGreat
set_option linter.unusedVariables false
set_option linter.unusedSimpArgs false
open Go.ChangeShapes Go.WideShapes Go.ChangeAt Go.RowKit Go.Deep

theorem Tryz.cellsSent : Tryz.prog.cellsOf 98 = 3 := by kernel_rfl

theorem len3 {α : Type} {l : List α} (h : l.length = 3) : ∃ a b c, l = [a, b, c] := by
  match l, h with
  | [a, b, c], _ => exact ⟨a, b, c, rfl⟩

section
variable {H : Type} {enc : TypeId × Value → H} {W : World} {sp : Nat → Bool} {held : Bool} {base : Nat}

theorem open_sent {n : Nat} {cs : List Value} {y : DataW H × List MemPlace} (h : DataW.trod enc Tryz.prog W base sp held n 98 cs = some y) :
    ∃ x : Snt, cs = [.int .i64 x.session, .int .i64 x.key, .int .i64 x.value] ∧ inInt x.session ∧ inInt x.key ∧ inInt x.value := by
  obtain ⟨xs, k, _, _, hlen, hxl, hf⟩ := DataW.trod_struct Tryz.underlying98 h
  rw [Tryz.cellsSent] at hlen
  obtain ⟨y0, y1, y2, rfl⟩ := len3 hxl
  obtain ⟨c0, c1, c2, rfl⟩ := len3 hlen
  · clear hxl hlen h
    have g0 := hf 0 _ rfl
    have g1 := hf 1 _ rfl
    have g2 := hf 2 _ rfl
    simp [Tryz.cellsInt] at g0 g1 g2
    obtain ⟨n0, e0, _, w0⟩ := DataW.trod_int Tryz.underlying3 g0
    obtain ⟨n1, e1, _, w1⟩ := DataW.trod_int Tryz.underlying3 g1
    obtain ⟨n2, e2, _, w2⟩ := DataW.trod_int Tryz.underlying3 g2
    simp at e0 e1 e2
    exact ⟨⟨n0, n1, n2⟩, by simp [e0, e1, e2], wf_inInt w0, wf_inInt w1, wf_inInt w2⟩

set_option maxRecDepth 100000 in
theorem open_sents {v : Value} {d : DataW H} {p : List MemPlace} (hv : Value.okWide Tryz.prog W .any base 22 v) (h : DataW.Trod enc Tryz.prog W 0 (fun _ => true) true 22 v d p) : ∃ L, SentAt W v L := by
  obtain ⟨a0, len0, cap0, rfl⟩ := okWide_slice Tryz.underlying22 hv
  obtain ⟨fuel, hf⟩ := h
  rcases open_slice Tryz.underlying22 hf with ⟨hc, _⟩ | ⟨a, len, cap, m, n, D, Pl, hcs, _, hl, hm, hmm, _, hall⟩
  · simp [Value.cells] at hc
    obtain ⟨rfl, rfl, rfl⟩ := hc
    exact ⟨[], ⟨none, 0, rfl⟩, by simp, fun i x hx => by simp at hx, by simp⟩
  · simp [Value.cells] at hcs
    obtain ⟨rfl, rfl, rfl⟩ := hcs
    simp only [if_true] at hmm
    subst hmm
    rw [Tryz.cellsSent] at hall
    have each : ∀ i, i < m → ∃ x : Snt, (∀ j u, [.int .i64 x.session, .int .i64 x.key, .int .i64 x.value][j]? = some u → W.cell? (a.add (i * 3 + j)) = some u) ∧ inInt x.session ∧ inInt x.key ∧ inInt x.value := fun i hi => by
      obtain ⟨cs', h1, h2⟩ := hall i hi
      obtain ⟨x, rfl, hx⟩ := open_sent h2
      obtain ⟨_, _, hcell⟩ := World.cells?_some h1
      refine ⟨x, fun j u hu => ?_, hx⟩
      have hj : j < 3 := by
        have := (List.getElem?_eq_some_iff.1 hu).1
        simpa using this
      have := hcell j hj
      rw [add_add] at this
      rw [this]; exact hu
    obtain ⟨f, hfx⟩ := @choose_lt Snt ⟨⟨0, 0, 0⟩⟩ _ _ each
    have hmx : m ≤ 9223372036854775807 := by unfold maxLen at hm; exact hm
    refine ⟨(List.range len0).map f, ⟨some a, m, by simp⟩, by simp; omega, fun i x hx => ?_, fun x hx => ?_⟩
    · have hi : i < len0 := by
        have := (List.getElem?_eq_some_iff.1 hx).1
        simpa using this
      have hxe : f i = x := by
        rw [List.getElem?_map, List.getElem?_range hi] at hx
        simpa using hx
      subst hxe
      obtain ⟨sb, so, spot⟩ := a
      have hc := (hfx i (by omega)).1
      have hspot : spot = none := by
        have := World.cell?_spot ((hfx 0 (by omega)).1 0 _ rfl)
        simpa [Addr.add] using this
      subst hspot
      have hq : ∀ j u, [.int .i64 (f i).session, .int .i64 (f i).key, .int .i64 (f i).value][j]? = some u → W.cell? ⟨sb, so + i * 3 + j, none⟩ = some u := fun j u hu => by
        have := hc j u hu
        rw [add_lit'] at this
        rw [show so + i * 3 + j = so + (i * 3 + j) by omega]
        exact this
      exact ⟨sb, so, m, by simp, hq 0 _ rfl, hq 1 _ rfl, hq 2 _ rfl⟩
    · obtain ⟨i, hi, rfl⟩ := List.mem_map.1 hx
      exact (hfx i (by have := List.mem_range.1 hi; omega)).2

set_option maxRecDepth 100000 in
theorem open_ints {v : Value} {d : DataW H} {p : List MemPlace} (hv : Value.okWide Tryz.prog W .any base 23 v) (h : DataW.Trod enc Tryz.prog W 0 (fun _ => true) true 23 v d p) : ∃ L, IntsAt W v L := by
  obtain ⟨a0, len0, cap0, rfl⟩ := okWide_slice Tryz.underlying23 hv
  obtain ⟨fuel, hf⟩ := h
  rcases open_slice Tryz.underlying23 hf with ⟨hc, _⟩ | ⟨a, len, cap, m, n, D, Pl, hcs, _, hl, hm, hmm, _, hall⟩
  · simp [Value.cells] at hc
    obtain ⟨rfl, rfl, rfl⟩ := hc
    exact ⟨[], ⟨none, 0, rfl⟩, by simp, fun i x hx => by simp at hx, by simp⟩
  · simp [Value.cells] at hcs
    obtain ⟨rfl, rfl, rfl⟩ := hcs
    simp only [if_true] at hmm
    subst hmm
    rw [Tryz.cellsInt] at hall
    have each : ∀ i, i < m → ∃ x : Int, W.cell? (a.add i) = some (.int .i64 x) ∧ inInt x := fun i hi => by
      obtain ⟨cs', h1, h2⟩ := hall i hi
      obtain ⟨x, rfl, _, hx⟩ := DataW.trod_int Tryz.underlying3 h2
      obtain ⟨_, _, hcell⟩ := World.cells?_some h1
      refine ⟨x, ?_, wf_inInt hx⟩
      have := hcell 0 (by omega)
      rw [add_add] at this
      simpa using this
    obtain ⟨f, hfx⟩ := @choose_lt Int ⟨0⟩ _ _ each
    have hmx : m ≤ 9223372036854775807 := by unfold maxLen at hm; exact hm
    refine ⟨(List.range len0).map f, ⟨some a, m, by simp⟩, by simp; omega, fun i x hx => ?_, fun x hx => ?_⟩
    · have hi : i < len0 := by
        have := (List.getElem?_eq_some_iff.1 hx).1
        simpa using this
      have hxe : f i = x := by
        rw [List.getElem?_map, List.getElem?_range hi] at hx
        simpa using hx
      subst hxe
      obtain ⟨sb, so, spot⟩ := a
      have hspot : spot = none := by
        have := World.cell?_spot (hfx 0 (by omega)).1
        simpa [Addr.add] using this
      subst hspot
      have hq := (hfx i (by omega)).1
      rw [add_lit'] at hq
      exact ⟨sb, so, m, by simp, hq⟩
    · obtain ⟨i, hi, rfl⟩ := List.mem_map.1 hx
      exact (hfx i (by have := List.mem_range.1 hi; omega)).2

end
end Go.Proofs.YthedkdbgfdjlkaaGreat

/- Once, WALKED. -/
namespace Go.Proofs.YthedkdbgfdjlkaaGreat
set_option linter.unusedVariables false
set_option linter.unusedSimpArgs false
open Go.RowKit Go.Lib

variable {R : World → Addr → Option St → (Nat → Prop) → Prop}

set_option maxRecDepth 100000 in
set_option maxHeartbeats 8000000 in
theorem once_walk (H : Api R) (w : World) (v u : Value) (L : List Snt) (P : List Int) (hS : SentAt w v L) (hP : IntsAt w u P) :
    Calls Tryz.prog 3 #[v, u] w fun e w' => e = .returned (.bool true) ∧ Chg (fun _ => False) w w' := by
  obtain ⟨pv, cv, rfl⟩ := hS.val
  obtain ⟨pu, cu, rfl⟩ := hP.val
  have hlen := hP.len
  go_enter Tryz.func3, Tryz.ntmps3
  go_wp2_with fail
  refine (taking_any H w).mono ?_
  rintro _ w1 ⟨rfl, c1⟩
  go_wp2_with fail
  refine (H.new w1).mono ?_
  rintro _ w2 ⟨a, F2, rfl, hR2, hF2, c2⟩
  have c02 : Chg (fun _ => False) w w2 := c1.trans c2 (fun _ _ h => h)
  have hF02 : ∀ k, F2 k → w.heap.size ≤ k := fun k hk => Nat.le_trans c1.size (hF2 k hk)
  have hlt2 : ∀ k, F2 k → k < w2.heap.size := fun k hk => H.lt hR2 hk
  have hS2 : SentAt w2 (.slice pv L.length cv) L := ⟨hS.val, hS.len, fun i x hx => by
    obtain ⟨sb, so, cap, e, y0, y1, y2⟩ := hS.cells i x hx
    exact ⟨sb, so, cap, e, c02.cellAt y0 id, c02.cellAt y1 id, c02.cellAt y2 id⟩, hS.fits⟩
  clear c1 c2 hF2
  go_wp2_with fail
  refine (numbered_any hS2).mono ?_
  rintro _ w3 ⟨va, all, rfl, ra, hN, c3⟩
  have hfew := hN.few
  obtain ⟨pa, ca, rfl⟩ := row_any ra
  obtain ⟨W4, hW4⟩ : ∃ W4, W4 = w3.alloc (Obj.cells #[.slice none 0 0, .int .i64 0, .int .i64 0, .int .i64 0, .int .i64 0] 32) := ⟨_, rfl⟩
  have c34 : Chg (fun _ => False) w3 W4 := by rw [hW4]; exact (Chg.refl _ w3).alloc _
  have hz23 := c3.size
  have hz02 := c02.size
  have hH : Half R W4 a w3.heap.size w.heap.size (.slice pa all.length ca) (.slice none 0 0) all [] St.init F2 (fun _ => 0) := by
    refine ⟨H.keep (H.keep hR2 c3) c34, ⟨?_, fun j hj => ?_, fun j => ?_, World.ownsRow_nil _ _ _ _, by simp [Value.ownBlock]⟩, row_lower (c34.row' ra (fun _ _ h => h)) hz02, fun h => ?_, fun k hk => by simp [Value.ownBlock] at hk, fun k hk hf => ?_, fun h => ?_, fun g _ hv => by simp [Value.ownBlock] at hv, ?_⟩
    · rw [hW4]; exact World.cell?_alloc_at _ _ _ _ rfl
    · rw [hW4]
      rcases (by omega : j = 0 ∨ j = 1 ∨ j = 2 ∨ j = 3) with rfl | rfl | rfl | rfl <;> exact World.cell?_alloc_at _ _ _ _ rfl
    · rw [hW4]; exact World.frozen?_alloc_at _ _ _ _ rfl
    · have := hlt2 _ h; omega
    · have := hlt2 _ hf
      have := (ra.lt k hk).1
      omega
    · have := (ra.lt _ h).2; omega
    · have := c34.size; omega
  have c04 : Chg (fun _ => False) w W4 := (c02.trans c3 (fun _ _ h => h)).trans c34 (fun _ _ h => h)
  have hob : w.heap.size ≤ w3.heap.size := by omega
  clear c02 hR2 hS2 hlt2 c3 ra c34 hz23 hz02
  go_wp2_with fail
  rw [← hW4]
  clear hW4
  go_loopw [9, 10, 11, 12, 13] (fun si _ _ _ _ wr => ∃ (i : Nat) (ol : List Rec) (s : St) (F : Nat → Prop) (vl : Value) (B : Nat → Int), si = .int .i64 i ∧ i ≤ P.length ∧ Half R wr a w3.heap.size w.heap.size (.slice pa all.length ca) vl all ol s F B ∧ OInv all ol s ∧ basesOf s B ∧ (∀ k, F k → w.heap.size ≤ k) ∧ Chg (fun _ => False) w wr) (fun si _ _ _ _ _ => P.length - (intOf si).toNat)
  case atStart => exact ⟨0, [], _, F2, _, _, rfl, by omega, hH, OInv.init all, basesOf_init, hF02, c04⟩
  case round =>
    obtain ⟨i, ol, s, F, vl, B, rfl, hi, hH1, hI, hB, hFw, hc⟩ := hrel
    clear hH c04 hF02
    by_cases hgo : i < P.length ∧ 0 < all.length
    · obtain ⟨hil, hal⟩ := hgo
      have hil' : (i : Int) < (P.length : Int) := by omega
      · have hal' : (0 : Int) < (all.length : Int) := by omega
        obtain ⟨c, hcx⟩ : ∃ c, P[i]? = some c := ⟨_, List.getElem?_eq_getElem hil⟩
        obtain ⟨sb, so, cap, hvv, y0⟩ := hP.cells i c hcx
        simp only [Value.slice.injEq] at hvv
        obtain ⟨rfl, _, rfl⟩ := hvv
        have hpk := fun w => pick_any c all.length w (hP.fits c (List.mem_of_getElem? hcx)) (by omega) (by omega)
        have hpr := pickI_range (c := c) (n := all.length) (by omega)
        obtain ⟨kn, hkn⟩ : ∃ kn : Nat, pickI c all.length = kn := ⟨(pickI c all.length).toNat, by omega⟩
        rw [hkn] at hpk hpr
        have hkl : kn < all.length := by omega
        have hkl' : (kn : Int) < (all.length : Int) := by omega
        obtain ⟨x, hx⟩ : ∃ x, all[kn]? = some x := ⟨_, List.getElem?_eq_getElem hkl⟩
        have hxm := List.mem_of_getElem? hx
        have hxe := hN.each x hxm
        obtain ⟨ga, ca', hva, _, _, hcell⟩ := row_pos hH1.row (by omega)
        simp only [Value.slice.injEq] at hva
        obtain ⟨rfl, _, rfl⟩ := hva
        have cx := recCells_at all kn x hx
        have m0 := hcell _ _ cx.1
        have m1 := hcell _ _ cx.2.1
        have m2 := hcell _ _ cx.2.2.1
        have m3 := hcell _ _ cx.2.2.2.1
        have m4 := hcell _ _ cx.2.2.2.2
        obtain ⟨sn, hsn⟩ : ∃ sn : Nat, x.session = sn := ⟨x.session.toNat, by omega⟩
        obtain ⟨xs, xe, xn, xk, xv⟩ := x
        simp only at hsn hxe m0 m1 m2 m3 m4
        obtain ⟨hx1, hx2, rfl, hx4, hx5⟩ := hxe
        subst hsn
        have hsn4 : sn < 4 := by omega
        have hsn4' : (sn : Int) < 4 := by omega
        obtain ⟨hnn, hno⟩ := ofS_number hN hxm (i := sn) rfl
        have hnl := (List.getElem?_eq_some_iff.1 hno).1
        simp only at hnn hnl
        have hol : (ofS all sn).length ≤ all.length := List.length_filter_le _ _
        obtain ⟨l, hl⟩ : ∃ l, s.lanes[sn]? = some l := ⟨_, List.getElem?_eq_getElem (by rw [hI.four]; exact hsn4)⟩
        have hbl := hB sn l hl
        have hLi := hI.lane sn l hl
        have hfit : (⟨sn, 0, xn, xk, xv⟩ : Rec).fits := by
          refine ⟨?_, ?_, ?_, ?_, ?_⟩
          · unfold inInt; simp only; omega
          · unfold inInt; simp only; omega
          · unfold inInt; simp only; omega
          · unfold inInt; simp only; omega
          · simp only [names4, List.mem_cons, List.not_mem_nil, or_false] at hx4
            rcases hx4 with e | e | e | e <;> simp only <;> rw [e] <;> decide
        obtain ⟨W5, hW5⟩ : ∃ W5, W5 = wr.alloc (Obj.cells #[.int .i64 sn, .int .i64 0, .int .i64 xn, .string xk, .int .i64 xv] 34) := ⟨_, rfl⟩
        have c5 : Chg (fun _ => False) wr W5 := by rw [hW5]; exact (Chg.refl _ wr).alloc _
        have z0 : W5.cell? ⟨wr.heap.size, 0, none⟩ = some (.int .i64 sn) := by rw [hW5]; exact World.cell?_alloc_at _ _ _ _ rfl
        have z1 : W5.cell? ⟨wr.heap.size, 1, none⟩ = some (.int .i64 0) := by rw [hW5]; exact World.cell?_alloc_at _ _ _ _ rfl
        have z2 : W5.cell? ⟨wr.heap.size, 2, none⟩ = some (.int .i64 xn) := by rw [hW5]; exact World.cell?_alloc_at _ _ _ _ rfl
        have z3 : W5.cell? ⟨wr.heap.size, 3, none⟩ = some (.string xk) := by rw [hW5]; exact World.cell?_alloc_at _ _ _ _ rfl
        have z4 : W5.cell? ⟨wr.heap.size, 4, none⟩ = some (.int .i64 xv) := by rw [hW5]; exact World.cell?_alloc_at _ _ _ _ rfl
        have hH5 := hH1.keep H c5
        have hxF : ¬ F wr.heap.size := fun h => by have := H.lt hH1.rel h; omega
        have hacc := H.accept ⟨sn, 0, xn, xk, xv⟩ hH5.rel rfl hfit
        have yr := hc.cellAt y0 id
        have cw5 : Chg (fun _ => False) w W5 := hc.trans c5 (fun _ _ h => h)
        have hao := accept_once hN hI hxm (i := sn) rfl hl
        have hbr : 0 ≤ l.base ∧ l.base ≤ 900 := by have := hLi.lo; have := hLi.hi; omega
        rw [hbl] at hbr
        clear hcell cx hkn hcx
        rcases hao with ⟨hfar, hff⟩ | ⟨b, hT⟩
        · simp only [accept?, hfar] at hacc
          simp only at hff
          rw [hbl] at hff
          clear hfar hfit hno hbl
          unfold Rec.value' at hacc
          go_wp2_with fail
          refine (hpk _).mono ?_
          rintro _ wp ⟨rfl, ewp⟩
          rw [ewp]
          clear ewp wp
          go_wp2_with fail
          rw [← hW5]
          refine hacc.mono ?_
          rintro _ w6 ⟨F6, rfl, hR6, hF6, c6⟩
          clear hacc hW5
          have hH6 := hH5.accept c6 hF6 hR6
          have q0 := c6.cellAt z0 hxF
          have q2 := c6.cellAt z2 hxF
          have hbc := hH6.ord.bs sn hsn4
          have hnf : ¬ xn < B sn + 4 := by omega
          have hnf' : decide (xn < B sn + 4) = false := decide_eq_false hnf
          go_wp2_with fail
          go_quiet (fail)
          go_wp2_with fail
          have cq : Chg (fun _ => False) w6 (w6.drewN nq) := ((Quiet.refl _).drewN _).chg _
          exact ⟨⟨i + 1, ol, s, F6, vl, B, by go_num, by omega, hH6.keep H cq, hI, hB, cw5.young hFw hF6, (cw5.step c6 hFw).trans cq (fun _ _ h => h)⟩, by simp [intOf]; omega⟩
        · obtain ⟨s', hs'⟩ : ∃ s', s' = (accept s ⟨sn, 0, xn, xk, xv⟩).2 := ⟨_, rfl⟩
          have hTi := hT.inv
          have hTb := hT.bases hB
          have hTl := hT.lo
          have hTh := hT.hi
          have hTn := hT.len
          simp only [accept?, hT.ans] at hacc
          rw [hbl] at hTi hTl hTh
          rw [← hs'] at hTi hTb hacc
          clear hT hs' hfit hno hbl
          have holl := hI.short hN
          unfold Rec.value' at hacc
          go_wp2_with fail
          refine (hpk _).mono ?_
          rintro _ wp ⟨rfl, ewp⟩
          rw [ewp]
          clear ewp wp
          go_wp2_with fail
          rw [← hW5]
          refine hacc.mono ?_
          rintro _ w6 ⟨F6, rfl, hR6, hF6, c6⟩
          clear hacc hW5
          have hH6 := hH5.accept c6 hF6 hR6
          have q0 := c6.cellAt z0 hxF
          have hmore := more_any (b := b) hsn4 hH6.ord hH6.row hH6.ao hH6.sep hH6.lo hN hbr.1 hTl hTh hTn holl
          go_wp2_with fail
          refine hmore.mono ?_
          rintro _ w7 ⟨rfl, vl', ho, hW, c7⟩
          clear hmore
          have cw6 : Chg (fun _ => False) w w6 := cw5.step c6 hFw
          go_wp2_with fail
          exact ⟨⟨i + 1, _, s', F6, vl', _, by go_num, by omega, hH6.more H ho hW c7, hTi, hTb, cw5.young hFw hF6, young_more cw6 hH6.ord hob c7⟩, by simp [intOf]; omega⟩
    · have hgo' : (¬ (i : Int) < (P.length : Int)) ∨ ((i : Int) < (P.length : Int) ∧ ¬ (0 : Int) < (all.length : Int)) := by omega
      obtain ⟨pl, cl, rfl⟩ := row_any hH1.ord.row
      have hlc := hH1.ord.list
      have hsum := sums_any H hH1.rel hH1.ord.row hH1.fl hI hN
      clear hgo
      rcases hgo' with hg | ⟨hg1, hg2⟩
      all_goals
        go_wp2_with fail
        refine hsum.mono ?_
        rintro _ w4 ⟨rfl, hR4, c4⟩
        have hH4 := hH1.accept c4 (fun k hk => .inl hk) hR4
        have cw4 : Chg (fun _ => False) w w4 := hc.step c4 hFw
        clear hsum hlc hH1 c4 hR4
        go_wp2_with fail
        go_loopw [15, 16, 17, 18] (fun si _ _ _ wr => ∃ (p : Nat) (ol : List Rec) (s : St) (F : Nat → Prop) (vl : Value) (B : Nat → Int), si = .int .i64 p ∧ p ≤ all.length ∧ Half R wr a w3.heap.size w.heap.size (.slice pa all.length ca) vl all ol s F B ∧ OInv all ol s ∧ basesOf s B ∧ (∀ j, j < 4 → ((ofS (all.take p) j).length : Int) ≤ B j) ∧ (∀ k, F k → w.heap.size ≤ k) ∧ Chg (fun _ => False) w wr) (fun si _ _ _ _ => all.length - (intOf si).toNat)
        case atStart => exact ⟨0, ol, s, F, _, B, rfl, by omega, hH4, hI, hB, fun j hj => by
          obtain ⟨l, hl⟩ : ∃ l, s.lanes[j]? = some l := ⟨_, List.getElem?_eq_getElem (by rw [hI.four]; exact hj)⟩
          rw [← hB j l hl]
          simpa [ofS] using (hI.lane j l hl).lo, hFw, cw4⟩
        case round =>
          clear hI hB hFw cw4 hH4 hc hi
          obtain ⟨p, ol, s, F, vl, B, rfl, hp, hH1, hI, hB, hD, hFw, hc⟩ := hrel
          by_cases hpl : p < all.length
          · first
            | exfalso; omega
            |
              have hpl' : (p : Int) < (all.length : Int) := by omega
              obtain ⟨x, hx⟩ : ∃ x, all[p]? = some x := ⟨_, List.getElem?_eq_getElem hpl⟩
              have hxm := List.mem_of_getElem? hx
              have hxe := hN.each x hxm
              obtain ⟨ga, ca', hva, _, _, hcell⟩ := row_pos hH1.row (by omega)
              simp only [Value.slice.injEq] at hva
              obtain ⟨rfl, _, rfl⟩ := hva
              have cx := recCells_at all p x hx
              have m0 := hcell _ _ cx.1
              have m1 := hcell _ _ cx.2.1
              have m2 := hcell _ _ cx.2.2.1
              have m3 := hcell _ _ cx.2.2.2.1
              have m4 := hcell _ _ cx.2.2.2.2
              have cx0 := cx.1
              have cx2 := cx.2.2.1
              obtain ⟨sn, hsn⟩ : ∃ sn : Nat, x.session = sn := ⟨x.session.toNat, by omega⟩
              obtain ⟨xs, xe, xn, xk, xv⟩ := x
              simp only at hsn hxe m0 m1 m2 m3 m4 cx0 cx2
              obtain ⟨hx1, hx2, rfl, hx4, hx5⟩ := hxe
              subst hsn
              have hsn4 : sn < 4 := by omega
              have hsn4' : (sn : Int) < 4 := by omega
              have hnum : xn = (ofS (all.take p) sn).length := numbered_at hN hx (i := sn) rfl
              have hnx := ofS_take_next hx
              simp only at hnx
              obtain ⟨hnn, hno⟩ := ofS_number hN hxm (i := sn) rfl
              have hnl := (List.getElem?_eq_some_iff.1 hno).1
              simp only at hnn hnl
              have hol : (ofS all sn).length ≤ all.length := List.length_filter_le _ _
              obtain ⟨l, hl⟩ : ∃ l, s.lanes[sn]? = some l := ⟨_, List.getElem?_eq_getElem (by rw [hI.four]; exact hsn4)⟩
              have hbl := hB sn l hl
              have hLi := hI.lane sn l hl
              have hDs := hD sn hsn4
              rw [← hnum] at hDs
              have hfit : (⟨sn, 0, xn, xk, xv⟩ : Rec).fits := by
                refine ⟨?_, ?_, ?_, ?_, ?_⟩
                · unfold inInt; simp only; omega
                · unfold inInt; simp only; omega
                · unfold inInt; simp only; omega
                · unfold inInt; simp only; omega
                · simp only [names4, List.mem_cons, List.not_mem_nil, or_false] at hx4
                  rcases hx4 with e | e | e | e <;> simp only <;> rw [e] <;> decide
              have hacc := H.accept ⟨sn, 0, xn, xk, xv⟩ hH1.rel rfl hfit
              have hbr : 0 ≤ l.base ∧ l.base ≤ 900 := by have := hLi.lo; have := hLi.hi; omega
              rw [hbl] at hbr
              have hao := accept_once hN hI hxm (i := sn) rfl hl
              rcases hao with ⟨hfar, hff⟩ | ⟨b, hT⟩
              · exfalso
                simp only at hff
                omega
              · obtain ⟨s', hs'⟩ : ∃ s', s' = (accept s ⟨sn, 0, xn, xk, xv⟩).2 := ⟨_, rfl⟩
                have hTi := hT.inv
                have hTb := hT.bases hB
                have hTl := hT.lo
                have hTh := hT.hi
                have hTn := hT.len
                have hTp := hT.past
                simp only at hTp
                simp only [accept?, hT.ans] at hacc
                rw [hbl] at hTi hTl hTh hTp
                have hpast : ¬ b ≤ xn := by have := hTp hDs; omega
                have HD : Hid (∀ j, j < 4 → ((ofS (all.take (p + 1)) j).length : Int) ≤ if j = sn then b else B j) := fun j hj => by
                  rw [hnx j]
                  by_cases e : j = sn
                  · subst e
                    simp
                    omega
                  · have := hD j hj
                    have e2 : ¬ (sn : Int) = (j : Int) := by omega
                    simp [e, e2]
                    exact this
                rw [← hs'] at hTi hTb hacc
                clear hT hs' hfit hno hbl hnum hnx hTp hDs
                have holl := hI.short hN
                unfold Rec.value' at hacc
                go_wp2_with fail
                refine hacc.mono ?_
                rintro _ w6 ⟨F6, rfl, hR6, hF6, c6⟩
                clear hacc
                have hH6 := hH1.accept c6 hF6 hR6
                obtain ⟨_, _, hva, _, _, hcell6⟩ := row_pos hH6.row (by omega)
                simp only [Value.slice.injEq, Option.some.injEq, Addr.mk.injEq] at hva
                obtain ⟨⟨rfl, _, _⟩, _, rfl⟩ := hva
                have q0 := hcell6 _ _ cx0
                have hmore := more_any (b := b) hsn4 hH6.ord hH6.row hH6.ao hH6.sep hH6.lo hN hbr.1 hTl hTh hTn holl
                go_wp2_with fail
                refine hmore.mono ?_
                rintro _ w7 ⟨rfl, vl', ho, hW, c7⟩
                clear hmore
                have cw6 : Chg (fun _ => False) w w6 := hc.step c6 hFw
                have hH7 := hH6.more H ho hW c7
                obtain ⟨_, _, hva, _, _, hcell7⟩ := row_pos hH7.row (by omega)
                simp only [Value.slice.injEq, Option.some.injEq, Addr.mk.injEq] at hva
                obtain ⟨⟨rfl, _, _⟩, _, rfl⟩ := hva
                have q2 := hcell7 _ _ cx2
                clear hcell6 hcell7 hcell
                go_wp2_with fail
                exact ⟨⟨p + 1, _, s', F6, vl', _, by go_num, by omega, hH7, hTi, hTb, HD.out, hc.young hFw hF6, young_more cw6 hH6.ord hob c7⟩, by simp [intOf]; omega⟩
          · have hpl' : ¬ (p : Int) < (all.length : Int) := by omega
            obtain ⟨pl, cl, rfl⟩ := row_any hH1.ord.row
            have hlc := hH1.ord.list
            have hsum := sums_any H hH1.rel hH1.ord.row hH1.fl hI hN
            have hall : ol.length = all.length := hI.all hN (fun j l hl => by
              have hj : j < 4 := by
                have := (List.getElem?_eq_some_iff.1 hl).1
                rw [hI.four] at this
                exact this
              have h1 := hD j hj
              rw [List.take_of_length_le (by omega)] at h1
              rw [hB j l hl]
              exact h1)
            rw [hall] at hlc hsum
            go_wp2_with fail
            refine hsum.mono ?_
            rintro _ w8 ⟨rfl, hR8, c8⟩
            have q0 := c8.cellAt hlc hH1.fo
            clear hsum
            go_wp2_with fail
            go_ret
            exact ⟨by simp, hc.step c8 hFw⟩

end Go.Proofs.YthedkdbgfdjlkaaGreat
