import Derived.Test.YthedkdbgfdjlkaaGreatPack1
import Derived.Test.YthedkdbgfdjlkaaGreatPack2
import Derived.Test.YthedkdbgfdjlkaaGreatPack3
import Derived.Test.YthedkdbgfdjlkaaGreatPack4
import Derived.Test.YthedkdbgfdjlkaaGreatPack5
import Derived.Test.YthedkdbgfdjlkaaGreatPack6
import Derived.Test.YthedkdbgfdjlkaaGreatPack7
/- Once: more, WALKED. -/
namespace Go.Proofs.YthedkdbgfdjlkaaGreat
set_option linter.unusedVariables false
set_option linter.unusedSimpArgs false
open Go.RowKit Go.Lib

/-- An order in memory: those that were taken, and the bases. -/
structure OrdAt (w : World) (ob lo : Nat) (vl : Value) (l : List Rec) (B : Nat → Int) : Prop where
  list : w.cell? ⟨ob, 0, none⟩ = some vl
  bs : ∀ j, j < 4 → w.cell? ⟨ob, 1 + j, none⟩ = some (.int .i64 (B j))
  fz : ∀ j, w.frozen? ⟨ob, j, none⟩ = false
  row : w.ownsRow lo 34 5 vl l.length (recCells l)
  ne : vl.ownBlock ≠ some ob

theorem OrdAt.chg {F : Nat → Prop} {w w' : World} {ob lo : Nat} {vl : Value} {l : List Rec} {B : Nat → Int} (h : OrdAt w ob lo vl l B) (hc : Chg F w w') (hb : ¬ F ob) (hv : ∀ k, vl.ownBlock = some k → ¬ F k) : OrdAt w' ob lo vl l B :=
  ⟨hc.cellAt h.list hb, fun j hj => hc.cellAt (h.bs j hj) hb, fun j => (World.frozen?_of_block (w := w) (hc.block ob (World.block_lt_of_cell? _ _ h.list) hb)).trans (h.fz j), hc.row' h.row hv, h.ne⟩

/-- Those of a session with a number. -/
def hits (all : List Rec) (i : Nat) (n : Int) : List Rec := all.filter (fun x => x.session == (i : Int) && x.number == n)

theorem filter_number : ∀ (A : List Rec) (k : Int) (n : Nat), (∀ (m : Nat) (x : Rec), A[m]? = some x → x.number = k + m) → A.filter (fun x => x.number == k + (n : Int)) = (A.drop n).take 1
  | [], k, n, _ => by simp
  | x :: r, k, 0, h => by
    have hx := h 0 x rfl
    have hr : r.filter (fun x => x.number == k + ((0 : Nat) : Int)) = [] := by
      refine List.filter_eq_nil_iff.2 (fun y hy => ?_)
      obtain ⟨m, hm, e⟩ := List.getElem_of_mem hy
      have := h (m + 1) y (by rw [List.getElem?_cons_succ, List.getElem?_eq_getElem hm, e])
      simp
      omega
    rw [List.filter_cons, hr]
    simp [hx]
  | x :: r, k, n + 1, h => by
    have hx := h 0 x rfl
    have ih := filter_number r (k + 1) n (fun m y hy => by
      have := h (m + 1) y (by rw [List.getElem?_cons_succ]; exact hy)
      omega)
    rw [List.filter_cons, if_neg (by simp; omega)]
    have e : k + ((n + 1 : Nat) : Int) = k + 1 + (n : Int) := by omega
    rw [e, ih]
    rfl

theorem hits_one {all : List Rec} (hN : Numbered all) (i n : Nat) : hits all i n = ((ofS all i).drop n).take 1 := by
  have h := filter_number (ofS all i) 0 n (fun m x hx => by rw [hN.num i m x hx]; omega)
  rw [← h]
  unfold hits ofS
  rw [List.filter_filter]
  congr 1
  funext x
  simp [Bool.and_comm]

theorem hits_take_next (all : List Rec) (i : Nat) (n : Int) (p : Nat) (x : Rec) (h : all[p]? = some x) : hits (all.take (p + 1)) i n = if x.session = i ∧ x.number = n then hits (all.take p) i n ++ [x] else hits (all.take p) i n := by
  obtain ⟨hl, e⟩ := List.getElem?_eq_some_iff.1 h
  unfold hits
  rw [List.take_succ_eq_append_getElem hl, e, List.filter_append]
  split
  · rename_i h; simp [h]
  · rename_i h
    have : ¬ (x.session == (i : Int) && x.number == n) = true := by simpa using h
    simp [List.filter_cons, this]

theorem drop_take_next {A : List Rec} {B n : Nat} (hB : B ≤ n) : (A.drop B).take (n - B) ++ (A.drop n).take 1 = (A.drop B).take (n + 1 - B) := by
  have e : n + 1 - B = (n - B) + 1 := by omega
  rw [e, List.take_add]
  congr 2
  rw [List.drop_drop]
  congr 1
  omega

/-- Where a list lies that was appended to. -/
def Wh (n : Nat) (v v' : Value) : Prop := v'.ownBlock = v.ownBlock ∨ ∀ k, v'.ownBlock = some k → n ≤ k

theorem Wh.refl (n : Nat) (v : Value) : Wh n v v := .inl rfl
theorem Wh.trans {n m : Nat} {a b c : Value} (h : Wh n a b) (h' : Wh m b c) (hn : n ≤ m) : Wh n a c := by
  rcases h' with h' | h'
  · rcases h with h | h
    · exact .inl (h'.trans h)
    · exact .inr fun k hk => h k (by rw [← h']; exact hk)
  · exact .inr fun k hk => Nat.le_trans hn (h' k hk)

theorem OrdAt.push {w w1 : World} {ob lo : Nat} {vl v' : Value} {l : List Rec} {B : Nat → Int} (h : OrdAt w ob lo vl l B) (o : Obj) (x : Rec) (hown : w1.ownsRow lo 34 5 v' (l.length + 1) (recCells l ++ x.cells)) (hg : (w.alloc o).drew.grownBy w1 vl.ownBlock) (hw : v'.ownBlock = vl.ownBlock ∨ ∀ k, v'.ownBlock = some k → (w.alloc o).drew.heap.size ≤ k) :
    OrdAt (w1.setCell ⟨ob, 0, none⟩ v') ob lo v' (l ++ [x]) B ∧ Wh w.heap.size vl v' ∧ Chg (fun k => k = ob ∨ vl.ownBlock = some k) w (w1.setCell ⟨ob, 0, none⟩ v') := by
  have hlt := World.block_lt_of_cell? _ _ h.list
  have e : (w.alloc o).drew.heap.size = w.heap.size + 1 := World.size_alloc _ _
  have c1 : Chg (fun k => vl.ownBlock = some k) w w1 := ((Chg.refl (fun k => vl.ownBlock = some k) w).alloc o).trans (G := fun k => vl.ownBlock = some k) ⟨hg.os, hg.tape, hg.output, hg.size, fun k hk hne' => hg.block k hk (fun h => hne' h.symm)⟩ (fun _ _ h => h)
  have c2 : Chg (fun k => k = ob) w1 (w1.setCell ⟨ob, 0, none⟩ v') := Chg.setCell (p := ⟨ob, 0, none⟩) (Chg.refl (fun k => k = ob) w1) (fun _ => rfl) _
  have hb : v'.ownBlock ≠ some ob := by
    rcases hw with hw | hw
    · rw [hw]; exact h.ne
    · intro hk; have := hw _ hk; simp only at hlt; omega
  refine ⟨⟨World.cell?_setCell_same _ _ _ (c1.cellAt h.list h.ne), fun j hj => (World.cell?_setCell_other _ _ _ _ (by simp)).trans (c1.cellAt (h.bs j hj) h.ne), fun j => ?_, ?_, hb⟩, ?_, ?_⟩
  · rw [World.frozen?_setCell]
    exact (World.frozen?_of_block (w := w) (c1.block ob hlt h.ne)).trans (h.fz j)
  · have := c2.row' hown (fun k hk hf => hb (by rw [← hf]; exact hk))
    rw [recCells_append]
    simpa [recCells] using this
  · rcases hw with hw | hw
    · exact .inl hw
    · exact .inr fun k hk => by have := hw k hk; omega
  · exact (c1.mono (fun k hk => .inr hk)).trans c2 (fun k _ hk => .inl hk)

theorem OrdAt.base {w : World} {ob lo : Nat} {vl : Value} {l : List Rec} {B : Nat → Int} (h : OrdAt w ob lo vl l B) {i : Nat} (hi : i < 4) (b : Int) : OrdAt (w.setCell ⟨ob, 1 + i, none⟩ (.int .i64 b)) ob lo vl l (fun j => if j = i then b else B j) := by
  have c : Chg (fun k => k = ob) w (w.setCell ⟨ob, 1 + i, none⟩ (.int .i64 b)) := Chg.setCell (p := ⟨ob, 1 + i, none⟩) (Chg.refl (fun k => k = ob) w) (fun _ => rfl) _
  refine ⟨(World.cell?_setCell_other _ _ _ _ (by simp <;> omega)).trans h.list, fun j hj => ?_, fun j => by rw [World.frozen?_setCell]; exact h.fz j, c.row' h.row (fun k hk hf => h.ne (by rw [← hf]; exact hk)), h.ne⟩
  by_cases e : j = i
  · subst e
    rw [World.cell?_setCell_same _ _ _ (h.bs j hj)]
    simp
  · rw [World.cell?_setCell_other _ _ _ _ (by simp <;> omega), h.bs j hj]
    simp [e]

set_option maxRecDepth 100000 in
set_option maxHeartbeats 4000000 in
theorem more_any {w : World} {ob lo la : Nat} {vl va : Value} {ol all : List Rec} {B : Nat → Int} {i : Nat} {b : Int} (hi : i < 4) (hO : OrdAt w ob lo vl ol B) (ra : w.ownsRow la 34 5 va all.length (recCells all)) (hae : va.ownBlock ≠ some ob) (hsep : ∀ g, va.ownBlock = some g → vl.ownBlock ≠ some g) (hlo : lo ≤ w.heap.size)
    (hN : Numbered all) (h0 : 0 ≤ B i) (h1 : B i ≤ b) (h2 : b ≤ B i + 4) (h3 : b ≤ (ofS all i).length) (hol : ol.length ≤ 900) :
    Calls Tryz.prog 12 #[.pointer (some ⟨ob, 0, none⟩), va, .int .i64 i, .int .i64 b] w fun e w' => e = .returned (.bool true) ∧ ∃ vl', OrdAt w' ob lo vl' (ol ++ ((ofS all i).drop (B i).toNat).take (b - B i).toNat) (fun j => if j = i then b else B j) ∧ Wh w.heap.size vl vl' ∧ Chg (fun k => k = ob ∨ vl.ownBlock = some k) w w' := by
  obtain ⟨i0, hi0, hz0, hz1, hz2⟩ := info_parts Tryz.infoR
  obtain ⟨pa, ca, rfl⟩ := row_any ra
  have hi' : (i : Int) < 4 := by omega
  have hBi := hO.bs i hi
  have hsl : (ofS all i).length ≤ all.length := List.length_filter_le _ _
  have hfew := hN.few
  obtain ⟨Bn, hBn⟩ : ∃ Bn : Nat, B i = Bn := ⟨(B i).toNat, by omega⟩
  rw [hBn] at hBi h0 h1 h2
  have HBN : Hid (B i = Bn) := hBn
  have hb0 : 0 ≤ b ∧ b ≤ 1000 := by omega
  clear hBn
  go_enter Tryz.func12, Tryz.ntmps12
  go_wp2_with fail
  go_loopw [9, 10, 11] (fun sn _ _ wr => ∃ (n : Nat) (vl' : Value), sn = .int .i64 n ∧ Bn ≤ n ∧ (n : Int) ≤ b ∧ OrdAt wr ob lo vl' (ol ++ ((ofS all i).drop Bn).take (n - Bn)) B ∧ Wh w.heap.size vl vl' ∧ Chg (fun k => k = ob ∨ vl.ownBlock = some k) w wr) (fun sn _ _ _ => b.toNat - (intOf sn).toNat)
  case atStart => exact ⟨Bn, vl, rfl, by omega, by omega, by simpa using hO, Wh.refl _ _, Chg.refl _ _⟩
  case round =>
    obtain ⟨n, v1, rfl, hn1, hn2, hO1, hW1, hc1⟩ := hrel
    clear hBi
    by_cases hnb : (n : Int) < b
    · obtain ⟨ln, hln⟩ : ∃ ln, ln = ol ++ ((ofS all i).drop Bn).take (n - Bn) := ⟨_, rfl⟩
      have hll : ln.length ≤ 910 := by
        rw [hln]
        simp only [List.length_append, List.length_take, List.length_drop]
        omega
      rw [← hln] at hO1
      go_wp2_with fail
      go_loopw [10, 11] (fun sf sp wq => ∃ (p : Nat) (f : Bool) (v2 : Value), sp = .int .i64 p ∧ p ≤ all.length ∧ sf = .bool f ∧ Hid (f = decide (0 < (hits (all.take p) i n).length)) ∧ OrdAt wq ob lo v2 (ln ++ hits (all.take p) i n) B ∧ Wh w.heap.size vl v2 ∧ Chg (fun k => k = ob ∨ vl.ownBlock = some k) w wq) (fun _ sp _ => all.length - (intOf sp).toNat)
      case atStart => exact ⟨0, false, v1, rfl, by omega, rfl, (show _ = _ by simp [hits]), by simpa [hits] using hO1, hW1, hc1⟩
      case round =>
        obtain ⟨p, f, v2, rfl, hp, rfl, HF, hO2, hW2, hc2⟩ := hrel
        by_cases hpl : p < all.length
        · have hpl' : (p : Int) < (all.length : Int) := by omega
          obtain ⟨x, hx⟩ : ∃ x, all[p]? = some x := ⟨_, List.getElem?_eq_getElem hpl⟩
          have ra2 := hc2.row' ra (fun k hk hf => by
            rcases hf with hf | hf
            · exact hae (by rw [← hf]; exact hk)
            · exact hsep k hk hf)
          obtain ⟨ga, ca', hva, _, _, hcell⟩ := row_pos ra2 (by omega)
          simp only [Value.slice.injEq] at hva
          obtain ⟨rfl, _, rfl⟩ := hva
          have cx := recCells_at all p x hx
          have m0 := hcell _ _ cx.1
          have m1 := hcell _ _ cx.2.1
          have m2 := hcell _ _ cx.2.2.1
          have m3 := hcell _ _ cx.2.2.2.1
          have m4 := hcell _ _ cx.2.2.2.2
          have hnx := hits_take_next all i n p x hx
          have hhl : (hits (all.take p) i n).length ≤ 900 := by
            have : (hits (all.take p) i n).length ≤ (all.take p).length := List.length_filter_le _ _
            simp only [List.length_take] at this
            omega
          have HNX : Hid (hits (all.take (p + 1)) i n = if x.session = i ∧ x.number = n then hits (all.take p) i n ++ [x] else hits (all.take p) i n) := hnx
          clear hcell cx hnx
          by_cases hs : x.session = i
          · rw [hs] at m0
            by_cases hm : x.number = n
            · rw [hm] at m2
              have HNX' : Hid (hits (all.take (p + 1)) i n = hits (all.take p) i n ++ [x]) := by show _ = _; rw [HNX.out, if_pos ⟨hs, hm⟩]
              obtain ⟨l2, hl2⟩ : ∃ l2, l2 = ln ++ hits (all.take p) i n := ⟨_, rfl⟩
              have HL2 : Hid (l2 ++ [x] = ln ++ hits (all.take (p + 1)) i n) := by show _ = _; rw [hl2, HNX'.out, List.append_assoc]
              have hl2l : l2.length ≤ 2000 := by rw [hl2, List.length_append]; omega
              rw [← hl2] at hO2
              have HX : Hid (x.cells = [.int .i64 i, .int .i64 x.epoch, .int .i64 n, .string x.key, .int .i64 x.value]) := by show _ = _; unfold Rec.cells; rw [hs, hm]
              have HF' : Hid (true = decide (0 < (hits (all.take (p + 1)) i n).length)) := by show _ = _; rw [HNX'.out]; simp
              clear HNX hl2 hs hm HNX' HF
              obtain ⟨q, cap, rfl⟩ := row_any hO2.row
              have s1 : Hid (∀ j u, x.cells[j]? = some u → ((wr.alloc (.cells #[.int .i64 i, .int .i64 x.epoch, .int .i64 n, .string x.key, .int .i64 x.value] 34)).drew).cell? ((⟨wr.heap.size, 0, none⟩ : Addr).add j) = some u) := by
                intro j u hj
                rw [HX.out] at hj
                match j, hj with
                | 0, hj => simp at hj; subst hj; simp [Addr.add]
                | 1, hj => simp at hj; subst hj; simp [Addr.add]
                | 2, hj => simp at hj; subst hj; simp [Addr.add]
                | 3, hj => simp at hj; subst hj; simp [Addr.add]
                | 4, hj => simp at hj; subst hj; simp [Addr.add]
                | k + 5, hj => simp at hj
              have s2 : Hid (∀ u ∈ x.cells, u.oneCell' = true) := by
                intro u hu
                simp [Rec.cells] at hu
                rcases hu with rfl | rfl | rfl | rfl | rfl <;> rfl
              have s3 : Hid (l2.length + 1 ≤ maxLen) := by show _ ≤ maxLen; unfold maxLen; omega
              have s4 : Hid ((l2.length + 1) * 48 ≤ 140737488355328) := by show _ ≤ _; omega
              have s5 : Hid (lo ≤ ((wr.alloc (.cells #[.int .i64 i, .int .i64 x.epoch, .int .i64 n, .string x.key, .int .i64 x.value] 34)).drew).heap.size) := by show lo ≤ (wr.alloc _).heap.size; rw [World.size_alloc]; have := hc2.size; omega
              have s6 : Hid (∀ (v' : Value) (w1 : World), w1.ownsRow lo 34 5 v' (l2.length + 1) (recCells l2 ++ x.cells) → (wr.alloc (.cells #[.int .i64 i, .int .i64 x.epoch, .int .i64 n, .string x.key, .int .i64 x.value] 34)).drew.grownBy w1 (Value.slice q l2.length cap).ownBlock → (v'.ownBlock = (Value.slice q l2.length cap).ownBlock ∨ ∀ k, v'.ownBlock = some k → (wr.alloc (.cells #[.int .i64 i, .int .i64 x.epoch, .int .i64 n, .string x.key, .int .i64 x.value] 34)).drew.heap.size ≤ k) → w1.cell? ⟨ob, 0, none⟩ = some (.slice q l2.length cap) ∧ w1.frozen? ⟨ob, 0, none⟩ = false ∧ Hid (OrdAt (w1.setCell ⟨ob, 0, none⟩ v') ob lo v' (l2 ++ [x]) B ∧ Wh wr.heap.size (.slice q l2.length cap) v' ∧ Chg (fun k => k = ob ∨ (Value.slice q l2.length cap).ownBlock = some k) wr (w1.setCell ⟨ob, 0, none⟩ v'))) := by
                intro v' w1 hown hg hw
                have hlt := World.block_lt_of_cell? _ _ hO2.list
                have hb := hg.block ob (by show ob < (wr.alloc _).heap.size; rw [World.size_alloc]; simp only at hlt; omega) (fun h => hO2.ne h.symm)
                have hb' : w1.heap[ob]? = wr.heap[ob]? := hb.trans (Below.heap_alloc _ _ _ hlt)
                exact ⟨(World.cell?_of_block (w := wr) hb').trans hO2.list, (World.frozen?_of_block (w := wr) hb').trans (hO2.fz 0), hO2.push _ x hown hg hw⟩
              have hpa : (wr.alloc (.cells #[.int .i64 i, .int .i64 x.epoch, .int .i64 n, .string x.key, .int .i64 x.value] 34)).cell? ⟨ob, 0, none⟩ = some (.slice q l2.length cap) := (World.cell?_alloc_lt wr _ _ (World.block_lt_of_cell? _ _ hO2.list)).trans hO2.list
              have hp0 := hO2.list
              go_wp2_with fail
              go_region_law (refine step_append_own rfl (.tmp 68) (.tmp 73) 27 rfl lo 34 i0 _ 5 48 Tryz.underlying27 hi0 hz0 hz1 hz2 rfl (by decide) _ l2.length (recCells l2) (by simp [Act.eval, Act.put]) (hO2.row.alloc _) ⟨wr.heap.size, 0, none⟩ 1 1 x.cells (by simp [Act.eval, Act.put]) rfl s1.out s2.out s3.out s4.out s5.out ?_; intro v' w1 hown hgrow hwhere; obtain ⟨q', cap', rfl⟩ := row_any hown; obtain ⟨hp1, hz1', hh⟩ := s6.out (.slice q' (l2.length + 1) cap') w1 hown hgrow hwhere)
              all_goals
                go_wp2_with fail
                exact ⟨⟨p + 1, true, .slice q' (l2.length + 1) cap', by go_num, by omega, rfl, HF', by rw [← HL2.out]; exact hh.out.1, hW2.trans hh.out.2.1 hc2.size, hc2.trans hh.out.2.2 (fun k hk h => by
                  rcases h with h | h
                  · exact .inl h
                  · rcases hW2 with h2 | h2
                    · exact .inr (by rw [← h2]; exact h)
                    · have := h2 k h; omega)⟩, by simp [intOf]; omega⟩
            · have hm' : (x.number == (n : Int)) = false := by simpa using hm
              have HNX' : Hid (hits (all.take (p + 1)) i n = hits (all.take p) i n) := by show _ = _; rw [HNX.out, if_neg (fun h => hm h.2)]
              clear HNX
              go_wp2_with fail
              exact ⟨⟨p + 1, f, v2, by go_num, by omega, rfl, (show _ = _ by rw [HNX'.out]; exact HF.out), by rw [HNX'.out]; exact hO2, hW2, hc2⟩, by simp [intOf]; omega⟩
          · have hs' : (x.session == (i : Int)) = false := by simpa using hs
            have HNX' : Hid (hits (all.take (p + 1)) i n = hits (all.take p) i n) := by show _ = _; rw [HNX.out, if_neg (fun h => hs h.1)]
            clear HNX
            go_wp2_with fail
            exact ⟨⟨p + 1, f, v2, by go_num, by omega, rfl, (show _ = _ by rw [HNX'.out]; exact HF.out), by rw [HNX'.out]; exact hO2, hW2, hc2⟩, by simp [intOf]; omega⟩
        · have hpl' : ¬ (p : Int) < (all.length : Int) := by omega
          have hall : all.take p = all := List.take_of_length_le (by omega)
          have hone := hits_one hN i n
          have hlt : n < (ofS all i).length := by omega
          rw [hall, hone] at HF hO2
          have hf : f = true := by
            rw [HF.out]
            simp
            omega
          rw [hf]
          have HL : Hid (ln ++ ((ofS all i).drop n).take 1 = ol ++ ((ofS all i).drop Bn).take (n + 1 - Bn)) := by
            show _ = _
            rw [hln, List.append_assoc, drop_take_next hn1]
          clear HF hone hall hf
          go_wp2_with fail
          exact ⟨⟨n + 1, v2, by go_num, by omega, by omega, by rw [← HL.out]; exact hO2, hW2, hc2⟩, by simp [intOf]; omega⟩
    · have hnb' : (n : Int) = b := by omega
      have hc0 := hO1.bs i hi
      have hf0 := hO1.fz (1 + i)
      have hlt := World.block_lt_of_cell? _ _ hO1.list
      have HE : Hid (ol ++ ((ofS all i).drop (B i).toNat).take (b - B i).toNat = ol ++ ((ofS all i).drop Bn).take (n - Bn)) := by
        show _ = _
        rw [HBN.out, ← hnb']
        congr 2
        omega
      go_wp2_with fail
      go_ret
      refine ⟨rfl, v1, ?_, hW1, hc1.setCell (p := ⟨ob, 1 + i, none⟩) (fun _ => .inl rfl) _⟩
      rw [HE.out]
      exact hO1.base hi b

end Go.Proofs.YthedkdbgfdjlkaaGreat

/- Once: sums, WALKED. -/
namespace Go.Proofs.YthedkdbgfdjlkaaGreat
set_option linter.unusedVariables false
set_option linter.unusedSimpArgs false
open Go.RowKit Go.Lib

variable {R : World → Addr → Option St → (Nat → Prop) → Prop}

theorem OInv.short {all ol : List Rec} {s : St} (h : OInv all ol s) (hn : Numbered all) : ol.length ≤ 900 := by
  have h1 := h.total hn
  have h2 := h.whole
  have h3 := (waits_ge (ls := s.lanes)).1
  have h4 := hn.few
  unfold St.records at h1
  omega

set_option maxRecDepth 100000 in
set_option maxHeartbeats 4000000 in
theorem sums_any (H : Api R) {w : World} {a : Addr} {s : St} {F : Nat → Prop} (hR : R w a (some s) F) {lo : Nat} {vl : Value} {ol all : List Rec} (row : w.ownsRow lo 34 5 vl ol.length (recCells ol)) (hsep : ∀ k, vl.ownBlock = some k → ¬ F k) (hI : OInv all ol s) (hN : Numbered all) :
    Calls Tryz.prog 13 #[.pointer (some a), vl] w fun e w' => e = .returned (.bool true) ∧ R w' a (some s) F ∧ Chg F w w' := by
  obtain ⟨pl, cl, rfl⟩ := row_any row
  have hol := hI.short hN
  have hf := H.fine hR
  have hsm := hf.small
  go_enter Tryz.func13, Tryz.ntmps13
  go_wp2_with fail
  refine (H.state hR).mono ?_
  rintro _ w3 ⟨vs, vk, rfl, hs3, hR3, c3⟩
  simp only [errno?, state?] at hs3 ⊢
  obtain ⟨us, hu1, hu2, hu3⟩ := hs3.sess
  have hk3 := hs3.keys
  obtain ⟨ps, cs, rfl⟩ := row_any hu2
  obtain ⟨pk, ck, rfl⟩ := row_any hk3
  clear hu1 hu2 hu3
  obtain ⟨W3, hW3⟩ : ∃ W3, W3 = w3.alloc (Obj.cells #[.slice ps s.lanes.length cs, .slice pk s.keys.length ck] 49) := ⟨_, rfl⟩
  have c33 : Chg (fun _ => False) w3 W3 := by rw [hW3]; exact (Chg.refl _ w3).alloc _
  have b1 : W3.cell? ⟨w3.heap.size, 1, none⟩ = some (.slice pk s.keys.length ck) := by rw [hW3]; exact World.cell?_alloc_at _ _ _ _ rfl
  have hk4 := c33.row' hk3 (fun _ _ h => h)
  have row4 := c33.row' (c3.row' row hsep) (fun _ _ h => h)
  have hR4 := H.keep hR3 c33
  have cw : Chg F w W3 := c3.trans c33 (fun _ _ h => h.elim)
  have hup := counts_upto (ks := s.keys) (fun k hk => (hf.key k hk).1)
  go_wp2_with fail
  rw [← hW3]
  clear hW3 hs3 hk3 c3 c33 hR3 hR row
  go_loopw [7, 8, 9, 10, 11] (fun sn si _ _ _ wr => ∃ (j : Nat) (m : Int), si = .int .i64 j ∧ j ≤ s.keys.length ∧ sn = .int .i64 m ∧ Hid (m = counts (s.keys.take j)) ∧ Chg (fun _ => False) W3 wr) (fun _ si _ _ _ _ => s.keys.length - (intOf si).toNat)
  case atStart => exact ⟨0, 0, rfl, by omega, rfl, (show _ = _ by simp [counts]), Chg.refl _ _⟩
  case round =>
    obtain ⟨j, m, rfl, hj, rfl, HM, hcj⟩ := hrel
    have e1 := hcj.cellAt b1 id
    by_cases hjl : j < s.keys.length
    · obtain ⟨q, hq⟩ : ∃ q, s.keys[j]? = some q := ⟨_, List.getElem?_eq_getElem hjl⟩
      have hqm := List.mem_of_getElem? hq
      have cx := keyCells_at s.keys j q hq
      obtain ⟨gk, capk, hvk, _, _, hck⟩ := row_pos hk4 (by omega)
      simp only [Value.slice.injEq] at hvk
      obtain ⟨rfl, _, rfl⟩ := hvk
      have m0 := hcj.cellAt (hck _ _ cx.1) id
      have m1 := hcj.cellAt (hck _ _ cx.2.1) id
      have m2 := hcj.cellAt (hck _ _ cx.2.2.1) id
      have m3 := hcj.cellAt (hck _ _ cx.2.2.2) id
      obtain ⟨kn, kc, kf⟩ := hI.key hN hqm
      have hq1 := (hf.key q hqm).1
      have hjl' : (j : Int) < (s.keys.length : Int) := by omega
      have hnx := counts_next s.keys j q hq
      have hn1 := hup j
      have hn2 := hup (j + 1)
      have hmx : 0 ≤ m ∧ m ≤ 1000 ∧ 0 ≤ m + q.count ∧ m + q.count ≤ 1000 := by rw [HM.out]; omega
      have HNX : Hid (counts (s.keys.take (j + 1)) = counts (s.keys.take j) + q.count) := hnx
      have KC : Hid (q.count = (tally q.name ol).1) := kc
      have KF : Hid (q.fold = (tally q.name ol).2) := kf
      clear hck cx hnx hn1 hn2 kc kf
      obtain ⟨W5, hW5⟩ : ∃ W5, W5 = wr.alloc (Obj.cells #[.string q.name, .int .i64 q.count, .int .i64 q.fold, .int .i64 q.held] 57) := ⟨_, rfl⟩
      have c5 : Chg (fun _ => False) wr W5 := by rw [hW5]; exact (Chg.refl _ wr).alloc _
      have z0 : W5.cell? ⟨wr.heap.size, 0, none⟩ = some (.string q.name) := by rw [hW5]; exact World.cell?_alloc_at _ _ _ _ rfl
      have z1 : W5.cell? ⟨wr.heap.size, 1, none⟩ = some (.int .i64 q.count) := by rw [hW5]; exact World.cell?_alloc_at _ _ _ _ rfl
      have z2 : W5.cell? ⟨wr.heap.size, 2, none⟩ = some (.int .i64 q.fold) := by rw [hW5]; exact World.cell?_alloc_at _ _ _ _ rfl
      have row5 := c5.row' (hcj.row' row4 (fun _ _ h => h)) (fun _ _ h => h)
      go_wp2_with fail
      rw [← hW5]
      clear hW5 m0 m1 m2 m3 e1
      go_loopw [10, 11] (fun sc sp wq => ∃ (p : Nat) (c : Int), sp = .int .i64 p ∧ p ≤ ol.length ∧ sc = .int .i64 c ∧ Hid (c = (tally q.name (ol.take p)).1) ∧ Chg (fun _ => False) W5 wq) (fun _ sp _ => ol.length - (intOf sp).toNat)
      case atStart => exact ⟨0, 0, rfl, by omega, rfl, (show _ = _ from rfl), Chg.refl _ _⟩
      case round =>
        obtain ⟨p, c, rfl, hp, rfl, HC, hcp⟩ := hrel
        have y0 := hcp.cellAt z0 id
        have y1 := hcp.cellAt z1 id
        have y2 := hcp.cellAt z2 id
        have hle := tally_take_le q.name ol p
        rw [← HC.out] at hle
        have hcr : 0 ≤ c ∧ c ≤ 900 := by omega
        clear hle
        by_cases hpl : p < ol.length
        · obtain ⟨x, hx⟩ : ∃ x, ol[p]? = some x := ⟨_, List.getElem?_eq_getElem hpl⟩
          obtain ⟨gl, capl, hvl, _, _, hcl⟩ := row_pos row5 (by omega)
          simp only [Value.slice.injEq] at hvl
          obtain ⟨rfl, _, rfl⟩ := hvl
          have x3 := hcp.cellAt (hcl _ _ (recCells_at ol p x hx).2.2.2.1) id
          have hpl' : (p : Int) < (ol.length : Int) := by omega
          have hnx := tally_take_next q.name ol p x hx
          clear hcl
          by_cases hke : x.key = q.name
          · have HC' : Hid (c + 1 = (tally q.name (ol.take (p + 1))).1) := by
              show _ = _
              rw [hnx, HC.out]; unfold tallyOne; rw [if_pos hke]
            rw [hke] at x3
            clear hnx hke HC
            go_wp2_with fail
            go_quiet (fail)
            go_wp2_with fail
            exact ⟨⟨p + 1, c + 1, by go_num, by omega, rfl, HC', hcp.trans (((Quiet.refl _).drewN _).chg _) (fun _ _ h => h)⟩, by simp [intOf]; omega⟩
          · have HC' : Hid (c = (tally q.name (ol.take (p + 1))).1) := by
              show _ = _
              rw [hnx, HC.out]; unfold tallyOne; rw [if_neg hke]
            have hkn : (x.key.toList == q.name.toList) = false := by
              rw [beq_eq_false_iff_ne]
              intro e
              rw [ByteArray.toList_eq, ByteArray.toList_eq] at e
              exact hke (ByteArray.ext (Array.toList_inj.1 e))
            clear hnx hke HC
            go_wp2_with fail
            go_quiet (fail)
            go_wp2_with fail
            exact ⟨⟨p + 1, c, by go_num, by omega, rfl, HC', hcp.trans (((Quiet.refl _).drewN _).chg _) (fun _ _ h => h)⟩, by simp [intOf]; omega⟩
        · have hpl' : ¬ (p : Int) < (ol.length : Int) := by omega
          have hcq : c = q.count := by rw [HC.out, KC.out, List.take_of_length_le (by omega)]
          rw [hcq]
          clear HC hcq hcr
          have hkf : ∀ k, Calls Tryz.prog 22 #[.slice pl ol.length cl, .string q.name, .int .i64 q.count] (wr.drewN k) fun e w' => e = .returned (.int .i64 q.fold) ∧ w' = wr.drewN k := fun k => by
            have := kfold_any (key := q.name) ((hcp.trans (((Quiet.refl wr).drewN k).chg _) (fun _ _ h => h)).row' row5 (fun _ _ h => h)) kn hol (fun x hx => by have := hN.each x (hI.sub x hx); exact this.2.2.2.2)
            rw [← KC.out, ← KF.out] at this
            exact this
          have hq0 : (q.count == 0) = false := by simp; omega
          have hne : (q.name.toList == ([] : List UInt8)) = false := by
            rw [beq_eq_false_iff_ne, ByteArray.toList_eq]
            simp only [names4, List.mem_cons, List.not_mem_nil, or_false] at kn
            rcases kn with e | e | e | e <;> rw [e] <;> simp [kC, kS, kL, kM]
          go_wp2_with fail
          go_quiet (first | (go_at_call 22; refine Calls.quiet_of_same (hkf _)))
          go_wp2_with fail
          exact ⟨⟨j + 1, m + q.count, by go_num, by omega, rfl, (show _ = _ by rw [HNX.out, HM.out]), (hcj.trans (c5.trans hcp (fun _ _ h => h)) (fun _ _ h => h)).trans (((Quiet.refl _).drewN _).chg _) (fun _ _ h => h)⟩, by simp [intOf]; omega⟩
    · have hjl' : ¬ (j : Int) < (s.keys.length : Int) := by omega
      have hm : m = (ol.length : Int) := by rw [HM.out, List.take_of_length_le (by omega), hI.whole]
      rw [hm]
      clear HM hm
      go_wp2_with fail
      go_ret
      exact ⟨by simp, H.keep hR4 hcj, cw.trans hcj (fun _ _ h => h.elim)⟩

end Go.Proofs.YthedkdbgfdjlkaaGreat

/- Once: what holds from call to call. -/
namespace Go.Proofs.YthedkdbgfdjlkaaGreat
set_option linter.unusedVariables false
set_option linter.unusedSimpArgs false
open Go.RowKit Go.Lib

variable {R : World → Addr → Option St → (Nat → Prop) → Prop}

/-- The relay, the order and the records beside one another. -/
structure Half (R : World → Addr → Option St → (Nat → Prop) → Prop) (w : World) (a : Addr) (ob lo : Nat) (va vl : Value) (all ol : List Rec) (s : St) (F : Nat → Prop) (B : Nat → Int) : Prop where
  rel : R w a (some s) F
  ord : OrdAt w ob lo vl ol B
  row : w.ownsRow lo 34 5 va all.length (recCells all)
  fo : ¬ F ob
  fl : ∀ k, vl.ownBlock = some k → ¬ F k
  fa : ∀ k, va.ownBlock = some k → ¬ F k
  ao : va.ownBlock ≠ some ob
  sep : ∀ g, va.ownBlock = some g → vl.ownBlock ≠ some g
  lo : lo ≤ w.heap.size

theorem Half.keep (H : Api R) {w w' : World} {a : Addr} {ob lo : Nat} {va vl : Value} {all ol : List Rec} {s : St} {F : Nat → Prop} {B : Nat → Int} (h : Half R w a ob lo va vl all ol s F B) (c : Chg (fun _ => False) w w') : Half R w' a ob lo va vl all ol s F B :=
  ⟨H.keep h.rel c, h.ord.chg c id (fun _ _ h => h), c.row' h.row (fun _ _ h => h), h.fo, h.fl, h.fa, h.ao, h.sep, Nat.le_trans h.lo c.size⟩

theorem Half.accept {w w' : World} {a : Addr} {ob lo : Nat} {va vl : Value} {all ol : List Rec} {s s' : St} {F F' : Nat → Prop} {B : Nat → Int} (h : Half R w a ob lo va vl all ol s F B) (c : Chg F w w') (hF : ∀ k, F' k → F k ∨ w.heap.size ≤ k) (hR : R w' a (some s') F') : Half R w' a ob lo va vl all ol s' F' B := by
  have hob : ob < w.heap.size := World.block_lt_of_cell? _ _ h.ord.list
  refine ⟨hR, h.ord.chg c h.fo h.fl, c.row' h.row h.fa, fun hk => ?_, fun k hk hf => ?_, fun k hk hf => ?_, h.ao, h.sep, Nat.le_trans h.lo c.size⟩
  · rcases hF _ hk with e | e
    · exact h.fo e
    · omega
  · rcases hF _ hf with e | e
    · exact h.fl k hk e
    · have := (h.ord.row.lt k hk).2; omega
  · rcases hF _ hf with e | e
    · exact h.fa k hk e
    · have := (h.row.lt k hk).2; omega

theorem Half.more (H : Api R) {w w' : World} {a : Addr} {ob lo : Nat} {va vl vl' : Value} {all ol ol' : List Rec} {s : St} {F : Nat → Prop} {B B' : Nat → Int} (h : Half R w a ob lo va vl all ol s F B) (ho : OrdAt w' ob lo vl' ol' B') (hW : Wh w.heap.size vl vl') (c : Chg (fun k => k = ob ∨ vl.ownBlock = some k) w w') : Half R w' a ob lo va vl' all ol' s F B' := by
  refine ⟨H.stable h.rel (fun k hk => c.block k (H.lt h.rel hk) (fun e => ?_)), ho, c.row' h.row (fun k hk e => ?_), h.fo, fun k hk hf => ?_, h.fa, h.ao, fun g hg hv => ?_, Nat.le_trans h.lo c.size⟩
  · rcases e with e | e
    · exact h.fo (by rw [← e]; exact hk)
    · exact h.fl k e hk
  · rcases e with e | e
    · exact h.ao (by rw [← e]; exact hk)
    · exact h.sep k hk e
  · rcases hW with e | e
    · exact h.fl k (by rw [← e]; exact hk) hf
    · have := e k hk
      have := H.lt h.rel hf
      omega
  · rcases hW with e | e
    · exact h.sep g hg (by rw [← e]; exact hv)
    · have := e g hv
      have := (h.row.lt g hg).2
      omega

/-- What is young stays so. -/
theorem young_more {w0 w w' : World} {ob : Nat} {vl : Value} {ol : List Rec} {B : Nat → Int} (h : Chg (fun _ => False) w0 w) (ho : OrdAt w ob w0.heap.size vl ol B) (hob : w0.heap.size ≤ ob) (c : Chg (fun k => k = ob ∨ vl.ownBlock = some k) w w') : Chg (fun _ => False) w0 w' :=
  h.step c (fun k hk => by
    rcases hk with e | e
    · omega
    · exact (ho.row.lt k e).1)

def basesOf (s : St) (B : Nat → Int) : Prop := ∀ (j : Nat) (l : Ln), s.lanes[j]? = some l → l.base = B j

theorem Took.bases {all ol : List Rec} {s : St} {i : Nat} {l : Ln} {x : Rec} {b : Int} (h : Took all ol s i l x b) {B : Nat → Int} (hB : basesOf s B) : basesOf (accept s x).2 (fun j => if j = i then b else B j) := by
  intro j l' hl'
  by_cases e : j = i
  · subst e
    obtain ⟨l2, h1, h2⟩ := h.here
    rw [h1] at hl'
    have := Option.some.inj hl'
    subst this
    simp [h2]
  · rw [h.there j e] at hl'
    simp [e]
    exact hB j l' hl'

theorem numbered_at {all : List Rec} (hN : Numbered all) {p : Nat} {x : Rec} (hx : all[p]? = some x) {i : Nat} (hi : x.session = i) : x.number = (ofS (all.take p) i).length := by
  obtain ⟨hl, e⟩ := List.getElem?_eq_some_iff.1 hx
  have h1 : all = all.take p ++ x :: all.drop (p + 1) := by
    conv => lhs; rw [← List.take_append_drop p all]
    rw [List.drop_eq_getElem_cons hl, e]
  refine hN.num i _ x ?_
  conv => lhs; arg 1; rw [h1]
  unfold ofS
  rw [List.filter_append, List.getElem?_append_right (Nat.le_refl _), Nat.sub_self, List.filter_cons, if_pos (by simp [hi])]
  rfl

theorem ofS_take_next {all : List Rec} {p : Nat} {x : Rec} (hx : all[p]? = some x) (j : Nat) : (ofS (all.take (p + 1)) j).length = (ofS (all.take p) j).length + if x.session = j then 1 else 0 := by
  obtain ⟨hl, e⟩ := List.getElem?_eq_some_iff.1 hx
  rw [List.take_succ_eq_append_getElem hl, e, ofS_snoc]
  split <;> simp

theorem basesOf_init : basesOf St.init (fun _ => 0) := by
  intro j l h
  have := List.mem_of_getElem? h
  simp [St.init] at this
  subst this
  rfl

/-- A list of numbers in memory. -/
structure IntsAt (w : World) (v : Value) (P : List Int) : Prop where
  val : ∃ p cap, v = .slice p P.length cap
  len : P.length ≤ 9223372036854775807
  cells : ∀ i x, P[i]? = some x → ∃ sb so cap, v = .slice (some ⟨sb, so, none⟩) P.length cap ∧ w.cell? ⟨sb, so + i, none⟩ = some (.int .i64 x)
  fits : ∀ x ∈ P, inInt x

end Go.Proofs.YthedkdbgfdjlkaaGreat

/- LISTS OF SENT ONES AND OF NUMBERS AS ARGUMENTS, OPENED. -/
namespace Go.Proofs.YthedkdbgfdjlkaaGreat
set_option linter.unusedVariables false
set_option linter.unusedSimpArgs false
open Go.ChangeShapes Go.WideShapes Go.ChangeAt Go.RowKit Go.Deep

theorem Tryz.cellsSent : Tryz.prog.cellsOf 98 = 3 := by kernel_rfl

theorem len3 {α : Type} {l : List α} (h : l.length = 3) : ∃ a b c, l = [a, b, c] := by
  match l, h with
  | [a, b, c], _ => exact ⟨a, b, c, rfl⟩

section
variable {H : Type} {enc : TypeId × Value → H} {W : World} {sp : Nat → Bool} {held : Bool} {base : Nat}

theorem open_sent {n : Nat} {cs : List Value} {y : DataW H × List MemPlace} (h : DataW.trod enc Tryz.prog W base sp held n 98 cs = some y) :
    ∃ x : Snt, cs = [.int .i64 x.session, .int .i64 x.key, .int .i64 x.value] ∧ inInt x.session ∧ inInt x.key ∧ inInt x.value := by
  obtain ⟨xs, k, _, _, hlen, hxl, hf⟩ := DataW.trod_struct Tryz.underlying98 h
  rw [Tryz.cellsSent] at hlen
  obtain ⟨y0, y1, y2, rfl⟩ := len3 hxl
  obtain ⟨c0, c1, c2, rfl⟩ := len3 hlen
  · clear hxl hlen h
    have g0 := hf 0 _ rfl
    have g1 := hf 1 _ rfl
    have g2 := hf 2 _ rfl
    simp [Tryz.cellsInt] at g0 g1 g2
    obtain ⟨n0, e0, _, w0⟩ := DataW.trod_int Tryz.underlying3 g0
    obtain ⟨n1, e1, _, w1⟩ := DataW.trod_int Tryz.underlying3 g1
    obtain ⟨n2, e2, _, w2⟩ := DataW.trod_int Tryz.underlying3 g2
    simp at e0 e1 e2
    exact ⟨⟨n0, n1, n2⟩, by simp [e0, e1, e2], wf_inInt w0, wf_inInt w1, wf_inInt w2⟩

set_option maxRecDepth 100000 in
theorem open_sents {v : Value} {d : DataW H} {p : List MemPlace} (hv : Value.okWide Tryz.prog W .any base 22 v) (h : DataW.Trod enc Tryz.prog W 0 (fun _ => true) true 22 v d p) : ∃ L, SentAt W v L := by
  obtain ⟨a0, len0, cap0, rfl⟩ := okWide_slice Tryz.underlying22 hv
  obtain ⟨fuel, hf⟩ := h
  rcases open_slice Tryz.underlying22 hf with ⟨hc, _⟩ | ⟨a, len, cap, m, n, D, Pl, hcs, _, hl, hm, hmm, _, hall⟩
  · simp [Value.cells] at hc
    obtain ⟨rfl, rfl, rfl⟩ := hc
    exact ⟨[], ⟨none, 0, rfl⟩, by simp, fun i x hx => by simp at hx, by simp⟩
  · simp [Value.cells] at hcs
    obtain ⟨rfl, rfl, rfl⟩ := hcs
    simp only [if_true] at hmm
    subst hmm
    rw [Tryz.cellsSent] at hall
    have each : ∀ i, i < m → ∃ x : Snt, (∀ j u, [.int .i64 x.session, .int .i64 x.key, .int .i64 x.value][j]? = some u → W.cell? (a.add (i * 3 + j)) = some u) ∧ inInt x.session ∧ inInt x.key ∧ inInt x.value := fun i hi => by
      obtain ⟨cs', h1, h2⟩ := hall i hi
      obtain ⟨x, rfl, hx⟩ := open_sent h2
      obtain ⟨_, _, hcell⟩ := World.cells?_some h1
      refine ⟨x, fun j u hu => ?_, hx⟩
      have hj : j < 3 := by
        have := (List.getElem?_eq_some_iff.1 hu).1
        simpa using this
      have := hcell j hj
      rw [add_add] at this
      rw [this]; exact hu
    obtain ⟨f, hfx⟩ := @choose_lt Snt ⟨⟨0, 0, 0⟩⟩ _ _ each
    have hmx : m ≤ 9223372036854775807 := by unfold maxLen at hm; exact hm
    refine ⟨(List.range len0).map f, ⟨some a, m, by simp⟩, by simp; omega, fun i x hx => ?_, fun x hx => ?_⟩
    · have hi : i < len0 := by
        have := (List.getElem?_eq_some_iff.1 hx).1
        simpa using this
      have hxe : f i = x := by
        rw [List.getElem?_map, List.getElem?_range hi] at hx
        simpa using hx
      subst hxe
      obtain ⟨sb, so, spot⟩ := a
      have hc := (hfx i (by omega)).1
      have hspot : spot = none := by
        have := World.cell?_spot ((hfx 0 (by omega)).1 0 _ rfl)
        simpa [Addr.add] using this
      subst hspot
      have hq : ∀ j u, [.int .i64 (f i).session, .int .i64 (f i).key, .int .i64 (f i).value][j]? = some u → W.cell? ⟨sb, so + i * 3 + j, none⟩ = some u := fun j u hu => by
        have := hc j u hu
        rw [add_lit'] at this
        rw [show so + i * 3 + j = so + (i * 3 + j) by omega]
        exact this
      exact ⟨sb, so, m, by simp, hq 0 _ rfl, hq 1 _ rfl, hq 2 _ rfl⟩
    · obtain ⟨i, hi, rfl⟩ := List.mem_map.1 hx
      exact (hfx i (by have := List.mem_range.1 hi; omega)).2

set_option maxRecDepth 100000 in
theorem open_ints {v : Value} {d : DataW H} {p : List MemPlace} (hv : Value.okWide Tryz.prog W .any base 23 v) (h : DataW.Trod enc Tryz.prog W 0 (fun _ => true) true 23 v d p) : ∃ L, IntsAt W v L := by
  obtain ⟨a0, len0, cap0, rfl⟩ := okWide_slice Tryz.underlying23 hv
  obtain ⟨fuel, hf⟩ := h
  rcases open_slice Tryz.underlying23 hf with ⟨hc, _⟩ | ⟨a, len, cap, m, n, D, Pl, hcs, _, hl, hm, hmm, _, hall⟩
  · simp [Value.cells] at hc
    obtain ⟨rfl, rfl, rfl⟩ := hc
    exact ⟨[], ⟨none, 0, rfl⟩, by simp, fun i x hx => by simp at hx, by simp⟩
  · simp [Value.cells] at hcs
    obtain ⟨rfl, rfl, rfl⟩ := hcs
    simp only [if_true] at hmm
    subst hmm
    rw [Tryz.cellsInt] at hall
    have each : ∀ i, i < m → ∃ x : Int, W.cell? (a.add i) = some (.int .i64 x) ∧ inInt x := fun i hi => by
      obtain ⟨cs', h1, h2⟩ := hall i hi
      obtain ⟨x, rfl, _, hx⟩ := DataW.trod_int Tryz.underlying3 h2
      obtain ⟨_, _, hcell⟩ := World.cells?_some h1
      refine ⟨x, ?_, wf_inInt hx⟩
      have := hcell 0 (by omega)
      rw [add_add] at this
      simpa using this
    obtain ⟨f, hfx⟩ := @choose_lt Int ⟨0⟩ _ _ each
    have hmx : m ≤ 9223372036854775807 := by unfold maxLen at hm; exact hm
    refine ⟨(List.range len0).map f, ⟨some a, m, by simp⟩, by simp; omega, fun i x hx => ?_, fun x hx => ?_⟩
    · have hi : i < len0 := by
        have := (List.getElem?_eq_some_iff.1 hx).1
        simpa using this
      have hxe : f i = x := by
        rw [List.getElem?_map, List.getElem?_range hi] at hx
        simpa using hx
      subst hxe
      obtain ⟨sb, so, spot⟩ := a
      have hspot : spot = none := by
        have := World.cell?_spot (hfx 0 (by omega)).1
        simpa [Addr.add] using this
      subst hspot
      have hq := (hfx i (by omega)).1
      rw [add_lit'] at hq
      exact ⟨sb, so, m, by simp, hq⟩
    · obtain ⟨i, hi, rfl⟩ := List.mem_map.1 hx
      exact (hfx i (by have := List.mem_range.1 hi; omega)).2

end
end Go.Proofs.YthedkdbgfdjlkaaGreat

/- Passed, THE PURE PART: records that come in their order; a sink that some puts reach. -/
namespace Go.Proofs.YthedkdbgfdjlkaaGreat
set_option linter.unusedVariables false
set_option linter.unusedSimpArgs false
open Go.RowKit

/-- What is kept, but for Held. -/
def Ky.un (k : Ky) : Ky := ⟨k.name, k.count, k.fold, 0⟩

theorem un_takeKy (name : ByteArray) (val : Int) : ∀ ks : List Ky, (takeKy name val ks).map Ky.un = takeKy name val (ks.map Ky.un)
  | [] => rfl
  | k :: r => by
    have ih := un_takeKy name val r
    unfold takeKy
    simp only [List.map_cons]
    have e : k.un.name = k.name := rfl
    rw [e]
    split
    · rfl
    · split
      · rfl
      · simp [ih]

theorem counts_un : ∀ ks : List Ky, counts (ks.map Ky.un) = counts ks
  | [] => rfl
  | k :: r => by simp [counts, counts_un r, Ky.un]

theorem names_un (ks : List Ky) : (ks.map Ky.un).map (·.name) = ks.map (·.name) := by
  rw [List.map_map]; rfl

/-- The relay behind the first i of them. -/
structure PInv (all : List Rec) (i : Nat) (s : St) : Prop where
  four : s.lanes.length = 4
  lane : ∀ j, j < 4 → s.lanes[j]? = some ⟨0, (ofS (all.take i) j).length, []⟩
  keys : s.keys.map Ky.un = keysOf (all.take i) []

theorem PInv.init (all : List Rec) : PInv all 0 St.init := by
  refine ⟨rfl, fun j hj => ?_, by simp [St.init, keysOf]⟩
  rcases (by omega : j = 0 ∨ j = 1 ∨ j = 2 ∨ j = 3) with rfl | rfl | rfl | rfl <;> simp [St.init, Ln.init, ofS]

theorem PInv.waitless {all : List Rec} {i : Nat} {s : St} (h : PInv all i s) : ∀ l ∈ s.lanes, l.ws = [] := by
  intro l hl
  obtain ⟨j, hj, e⟩ := List.getElem_of_mem hl
  have := h.lane j (by rw [← h.four]; exact hj)
  rw [List.getElem?_eq_getElem hj, e] at this
  rw [Option.some.inj this]

theorem waits_none : ∀ ls : List Ln, (∀ l ∈ ls, l.ws = []) → waits ls = 0
  | [], _ => rfl
  | l :: r, h => by
    have h1 := h l (by simp)
    have h2 := waits_none r (fun x hx => h x (by simp [hx]))
    simp [waits, h1, h2]

theorem flat_none : ∀ ls : List Ln, (∀ l ∈ ls, l.ws = []) → ls.flatMap (fun l => l.ws.map (·.key)) = []
  | [], _ => rfl
  | l :: r, h => by
    have h1 := h l (by simp)
    have h2 := flat_none r (fun x hx => h x (by simp [hx]))
    simp only [List.flatMap_cons, h2, h1]
    rfl

theorem PInv.counts {all : List Rec} {i : Nat} {s : St} (h : PInv all i s) (hi : i ≤ all.length) : counts s.keys = i := by
  rw [← counts_un, h.keys, counts_keysOf]
  simp [Go.Proofs.YthedkdbgfdjlkaaGreat.counts]
  omega

theorem PInv.key {all : List Rec} {i : Nat} {s : St} (h : PInv all i s) (hn : Numbered all) {k : Ky} (hk : k ∈ s.keys) : k.name ∈ names4 ∧ (k.count, k.fold) = tally k.name (all.take i) := by
  have hu : k.un ∈ keysOf (all.take i) [] := by rw [← h.keys]; exact List.mem_map.2 ⟨k, hk, rfl⟩
  refine ⟨?_, (keysOf_tally (all.take i)).2.1 k.un hu⟩
  rcases keysOf_names _ _ _ hu with ⟨z, hz, _⟩ | ⟨x, hx, e⟩
  · simp at hz
  · have : x.key = k.name := e
    rw [← this]
    exact (hn.each x (List.mem_of_mem_take hx)).2.2.2.1

theorem PInv.there {all : List Rec} {i : Nat} {s : St} (h : PInv all i s) {name : ByteArray} (ht : 1 ≤ (tally name (all.take i)).1) : ∃ k ∈ s.keys, k.name = name := by
  have hx : ∃ x ∈ all.take i, x.key = name := by
    by_cases hx : ∃ x ∈ all.take i, x.key = name
    · exact hx
    · have h0 : tally name (all.take i) = (0, 0) := tally_none _ _ _ (fun x hx' e => hx ⟨x, hx', e⟩)
      rw [h0] at ht
      simp at ht
  obtain ⟨x, hx, e⟩ := hx
  obtain ⟨k, hk, e2⟩ := (keysOf_tally (all.take i)).2.2 x hx
  rw [← h.keys] at hk
  obtain ⟨k', hk', rfl⟩ := List.mem_map.1 hk
  exact ⟨k', hk', (show k'.name = x.key from e2).trans e⟩

theorem PInv.sorted {all : List Rec} {i : Nat} {s : St} (h : PInv all i s) : Sorted s.keys := by
  have := (keysOf_tally (all.take i)).1
  rw [← h.keys] at this
  exact (List.pairwise_map.1 this)

theorem PInv.apart {all : List Rec} {i : Nat} {s : St} (h : PInv all i s) : (s.keys.map (·.name)).Nodup := by
  have := h.sorted
  unfold List.Nodup
  rw [List.pairwise_map]
  refine this.imp fun {a b} hab e => ?_
  rw [e, less_irrefl] at hab
  cases hab

/-- The next one is taken at once. -/
theorem PInv.accept {all : List Rec} {i : Nat} {s : St} (h : PInv all i s) (hn : Numbered all) {x : Rec} (hx : all[i]? = some x) :
    (accept s x).1 = (x.number + 1, 0) ∧ (accept s x).2.keys = takeKy x.key x.value s.keys ∧ PInv all (i + 1) (accept s x).2 := by
  have hm := List.mem_of_getElem? hx
  have hlt := (List.getElem?_eq_some_iff.1 hx).1
  obtain ⟨e1, e2, e3, e4, e5, e6⟩ := hn.each x hm
  obtain ⟨sn, hsn⟩ : ∃ sn : Nat, x.session = sn := ⟨x.session.toNat, by omega⟩
  have hs4 : sn < 4 := by omega
  have hl := h.lane sn hs4
  have hnum := numbered_at hn hx hsn
  have hw := h.waitless
  have hfew := hn.few
  have hcn := h.counts (by omega)
  have hset : s.lanes.set sn ⟨0, (ofS (all.take i) sn).length, []⟩ = s.lanes := by
    obtain ⟨hlen, e⟩ := List.getElem?_eq_some_iff.1 hl
    rw [← e]; exact List.set_getElem_self hlen
  have ha : Go.Proofs.YthedkdbgfdjlkaaGreat.accept s x = ((x.number + 1, 0), ⟨s.lanes.set sn ⟨0, x.number + 1, []⟩, takeKy x.key x.value s.keys⟩) := by
    unfold Go.Proofs.YthedkdbgfdjlkaaGreat.accept
    rw [if_neg (by omega), if_neg (by rw [okKey_four e4]; simp; omega)]
    have : x.session.toNat = sn := by omega
    rw [this, hl]
    simp only
    unfold acceptIn
    have ht : (⟨0, (ofS (all.take i) sn).length, []⟩ : Ln).turned x.epoch = ⟨0, (ofS (all.take i) sn).length, []⟩ := by
      unfold Ln.turned
      rw [if_neg (by rw [e3]; simp)]
    simp only [ht, hset]
    have hnm : ∀ k ∈ (⟨s.lanes, s.keys⟩ : St).names, k ∈ names4 := fun k hk => by
      unfold St.names at hk
      simp only [flat_none _ hw, List.append_nil] at hk
      obtain ⟨y, hy, rfl⟩ := List.mem_map.1 hk
      exact (h.key hn hy).1
    have hrec : (⟨s.lanes, s.keys⟩ : St).records < 1000 := by
      unfold St.records
      simp only [waits_none _ hw, hcn]
      omega
    rw [if_neg (by rw [e3]; simp), if_neg (by omega), if_neg (by simp; omega), if_neg (names_room e4 hnm), if_neg (by omega)]
    simp only [putW, drainW]
    rw [if_pos hnum, ← hnum]
  rw [ha]
  refine ⟨rfl, rfl, ?_, fun j hj => ?_, ?_⟩
  · simpa using h.four
  · rw [ofS_take_next hx j]
    by_cases e : sn = j
    · subst e
      simp only
      rw [List.getElem?_set_self (by rw [h.four]; exact hs4), if_pos hsn, hnum]
      simp
    · simp only
      rw [List.getElem?_set_ne e, if_neg (by omega), h.lane j hj]
      simp
  · simp only
    rw [un_takeKy, h.keys]
    have e := (List.getElem?_eq_some_iff.1 hx).2
    rw [List.take_succ_eq_append_getElem hlt, e, keysOf_append]
    rfl

/-- What a key's Held is behind an Accept. -/
theorem takeKy_held (name : ByteArray) (val : Int) {ks : List Ky} (hs : Sorted ks) : ∀ k ∈ takeKy name val ks, k.held = 0 ∨ ∃ y ∈ ks, y.name = k.name ∧ y.held = k.held := by
  intro k hk
  rcases takeKy_cases name val hs k hk with ⟨h1, _⟩ | ⟨y, h1, _, h3⟩ | ⟨h1, _⟩
  · exact .inr ⟨k, h1, rfl, rfl⟩
  · exact .inr ⟨y, h1, by rw [h3]; rfl, by rw [h3]; rfl⟩
  · exact .inl (by rw [h1]; rfl)

/-- The sink. -/
structure SInv (all : List Rec) (i : Nat) (ks : List Ky) (L : List Pt) : Prop where
  apart : (L.map (·.key)).Nodup
  each : ∀ p ∈ L, 1 ≤ p.token ∧ ∃ j, j ≤ i ∧ (p.token, p.value) = tally p.key (all.take j)
  held : ∀ k ∈ ks, 0 < k.held → ∃ p ∈ L, p.key = k.name ∧ k.held ≤ p.token

theorem SInv.nil (all : List Rec) : SInv all 0 [] [] := ⟨by simp, by simp, by simp⟩

theorem tally_mono (name : ByteArray) (all : List Rec) {j i : Nat} (h : j ≤ i) : (tally name (all.take j)).1 ≤ (tally name (all.take i)).1 := by
  have e : (all.take i).take j = all.take j := by rw [List.take_take]; congr 1; omega
  have := (tally_take_le name (all.take i) j).2.1
  rw [e] at this
  exact this

theorem SInv.accept {all : List Rec} {i : Nat} {ks : List Ky} {L : List Pt} (h : SInv all i ks L) (hs : Sorted ks) (name : ByteArray) (val : Int) : SInv all (i + 1) (takeKy name val ks) L := by
  refine ⟨h.apart, fun p hp => ?_, fun k hk h0 => ?_⟩
  · obtain ⟨h1, j, h2, h3⟩ := h.each p hp
    exact ⟨h1, j, by omega, h3⟩
  · rcases takeKy_held name val hs k hk with e | ⟨y, hy, e1, e2⟩
    · omega
    · obtain ⟨p, hp, e3, h4⟩ := h.held y hy (by omega)
      exact ⟨p, hp, by rw [e3, e1], by omega⟩

/-- What a put makes of the sink: its list, and the token that it holds then. -/
def sinkPut (p : Pt) : List Pt → List Pt
  | [] => [p]
  | q :: r => if q.key = p.key then (if q.token < p.token then p :: r else q :: r) else q :: sinkPut p r

theorem sinkPut_mem (p : Pt) : ∀ (L : List Pt) (q : Pt), q ∈ sinkPut p L → q = p ∨ q ∈ L
  | [], q, h => by simp [sinkPut] at h; exact .inl h
  | x :: r, q, h => by
    unfold sinkPut at h
    split at h
    · split at h
      · rcases List.mem_cons.1 h with h | h
        · exact .inl h
        · exact .inr (by simp [h])
      · exact .inr h
    · rcases List.mem_cons.1 h with h | h
      · exact .inr (by simp [h])
      · rcases sinkPut_mem p r q h with h | h
        · exact .inl h
        · exact .inr (by simp [h])

theorem sinkPut_keys (p : Pt) : ∀ (L : List Pt), (sinkPut p L).map (·.key) = L.map (·.key) ∨ (p.key ∉ L.map (·.key) ∧ (sinkPut p L).map (·.key) = L.map (·.key) ++ [p.key])
  | [] => .inr ⟨by simp, by simp [sinkPut]⟩
  | x :: r => by
    have ih := sinkPut_keys p r
    unfold sinkPut
    by_cases e : x.key = p.key
    · rw [if_pos e]
      left
      split <;> simp [e]
    · rw [if_neg e]
      simp only [List.map_cons]
      rcases ih with ih | ⟨h1, h2⟩
      · exact .inl (by rw [ih])
      · refine .inr ⟨fun h => ?_, by rw [h2]; rfl⟩
        rcases List.mem_cons.1 h with h | h
        · exact e h.symm
        · exact h1 h

theorem nodup_key {α : Type} {f : α → ByteArray} : ∀ {l : List α}, (l.map f).Nodup → ∀ a ∈ l, ∀ b ∈ l, f a = f b → a = b
  | [], _, a, ha, _, _, _ => by simp at ha
  | x :: r, h, a, ha, b, hb, e => by
    simp only [List.map_cons, List.nodup_cons] at h
    rcases List.mem_cons.1 ha with ea | ha
    · rcases List.mem_cons.1 hb with eb | hb
      · rw [ea, eb]
      · exact absurd (List.mem_map.2 ⟨b, hb, by rw [← e, ea]⟩) h.1
    · rcases List.mem_cons.1 hb with eb | hb
      · exact absurd (List.mem_map.2 ⟨a, ha, by rw [e, eb]⟩) h.1
      · exact nodup_key h.2 a ha b hb e

/-- No token falls, and the put's own is there. -/
theorem sinkPut_up (p : Pt) : ∀ (L : List Pt), (∀ q ∈ L, ∃ q' ∈ sinkPut p L, q'.key = q.key ∧ q.token ≤ q'.token) ∧ ∃ q' ∈ sinkPut p L, q'.key = p.key ∧ p.token ≤ q'.token
  | [] => ⟨by simp, p, by simp [sinkPut], rfl, by omega⟩
  | x :: r => by
    obtain ⟨h1, q', h2, h3, h4⟩ := sinkPut_up p r
    unfold sinkPut
    by_cases e : x.key = p.key
    · rw [if_pos e]
      by_cases ht : x.token < p.token
      · rw [if_pos ht]
        refine ⟨fun q hq => ?_, p, by simp, rfl, by omega⟩
        rcases List.mem_cons.1 hq with rfl | hq
        · exact ⟨p, by simp, e.symm, by omega⟩
        · exact ⟨q, by simp [hq], rfl, by omega⟩
      · rw [if_neg ht]
        exact ⟨fun q hq => ⟨q, hq, rfl, by omega⟩, x, by simp, e, by omega⟩
    · rw [if_neg e]
      refine ⟨fun q hq => ?_, q', by simp [h2], h3, h4⟩
      rcases List.mem_cons.1 hq with rfl | hq
      · exact ⟨q, by simp, rfl, by omega⟩
      · obtain ⟨q2, g1, g2, g3⟩ := h1 q hq
        exact ⟨q2, by simp [g1], g2, g3⟩

theorem SInv.put {all : List Rec} {i : Nat} {ks : List Ky} {L : List Pt} (h : SInv all i ks L) {p : Pt} (h1 : 1 ≤ p.token) (h2 : (p.token, p.value) = tally p.key (all.take i)) : SInv all i ks (sinkPut p L) := by
  refine ⟨?_, fun q hq => ?_, fun k hk h0 => ?_⟩
  · rcases sinkPut_keys p L with e | ⟨hne, e⟩
    · rw [e]; exact h.apart
    · rw [e, List.nodup_append]
      refine ⟨h.apart, by simp, fun a ha b hb e => ?_⟩
      simp at hb
      subst hb
      exact hne (by rw [← e]; exact ha)
  · rcases sinkPut_mem p L q hq with rfl | hq
    · exact ⟨h1, i, by omega, h2⟩
    · exact h.each q hq
  · obtain ⟨q, g1, g2, g3⟩ := h.held k hk h0
    obtain ⟨q', g4, g5, g6⟩ := (sinkPut_up p L).1 q g1
    exact ⟨q', g4, g5.trans g2, by omega⟩

/-- The sink's token for the key of a put is the count. -/
theorem SInv.token {all : List Rec} {i : Nat} {ks : List Ky} {L : List Pt} (h : SInv all i ks L) {q : Pt} (hq : q ∈ L) : q.token ≤ (tally q.key (all.take i)).1 := by
  obtain ⟨_, j, h1, h2⟩ := h.each q hq
  have := tally_mono q.key all h1
  have e : q.token = (tally q.key (all.take j)).1 := by rw [← h2]
  omega

theorem holdKy_mem (name : ByteArray) (n : Int) : ∀ (ks : List Ky) (k : Ky), k ∈ holdKy name n ks → k ∈ ks ∨ ∃ y ∈ ks, y.name = name ∧ k = ⟨y.name, y.count, y.fold, max y.held n⟩
  | [], k, h => by simp [holdKy] at h
  | x :: r, k, h => by
    unfold holdKy at h
    split at h
    · rename_i e
      rcases List.mem_cons.1 h with h | h
      · exact .inr ⟨x, by simp, e, h⟩
      · exact .inl (by simp [h])
    · rcases List.mem_cons.1 h with h | h
      · exact .inl (by simp [h])
      · rcases holdKy_mem name n r k h with h | ⟨y, h1, h2, h3⟩
        · exact .inl (by simp [h])
        · exact .inr ⟨y, by simp [h1], h2, h3⟩

theorem un_holdKy (name : ByteArray) (n : Int) : ∀ (ks : List Ky), (holdKy name n ks).map Ky.un = ks.map Ky.un
  | [] => rfl
  | x :: r => by
    unfold holdKy
    split
    · rfl
    · simp [un_holdKy name n r]

theorem findKy_mem (name : ByteArray) : ∀ (ks : List Ky), (ks.map (·.name)).Nodup → ∀ k ∈ ks, k.name = name → findKy name ks = some k
  | [], _, k, h, _ => by simp at h
  | x :: r, hn, k, h, e => by
    simp only [List.map_cons, List.nodup_cons] at hn
    unfold findKy
    rcases List.mem_cons.1 h with rfl | h
    · rw [if_pos e]
    · have hx : x.name ≠ name := fun e2 => hn.1 (List.mem_map.2 ⟨k, h, by rw [e, e2]⟩)
      rw [if_neg hx]
      exact findKy_mem name r hn.2 k h e

/-- An answer of the key's own count. -/
theorem PInv.answer {all : List Rec} {i : Nat} {s : St} (h : PInv all i s) (hn : Numbered all) (hf : s.fine) {k : Ky} (hk : k ∈ s.keys) :
    answer s k.name k.count = (0, ⟨s.lanes, holdKy k.name k.count s.keys⟩) ∧ PInv all i ⟨s.lanes, holdKy k.name k.count s.keys⟩ := by
  refine ⟨?_, h.four, h.lane, by simp only; rw [un_holdKy]; exact h.keys⟩
  unfold Go.Proofs.YthedkdbgfdjlkaaGreat.answer
  have := hf.key k hk
  rw [okKey_four (h.key hn hk).1, if_neg (by simp), findKy_mem _ _ h.apart k hk rfl]
  simp only
  rw [if_neg (by omega)]

theorem holdKy_held (name : ByteArray) (n : Int) : ∀ (ks : List Ky), (ks.map (·.name)).Nodup → ∀ k ∈ holdKy name n ks, (k.name ≠ name ∧ k ∈ ks) ∨ (k.name = name ∧ n ≤ k.held ∧ ∃ y ∈ ks, y.name = name ∧ k.count = y.count ∧ k.held = max y.held n)
  | [], _, k, h => by simp [holdKy] at h
  | x :: r, hn, k, h => by
    simp only [List.map_cons, List.nodup_cons] at hn
    unfold holdKy at h
    split at h
    · rename_i e
      rcases List.mem_cons.1 h with h | h
      · subst h
        exact .inr ⟨e, by simp only; omega, x, by simp, e, rfl, rfl⟩
      · refine .inl ⟨fun e2 => hn.1 (List.mem_map.2 ⟨k, h, by rw [e, e2]⟩), by simp [h]⟩
    · rename_i e
      rcases List.mem_cons.1 h with h | h
      · subst h
        exact .inl ⟨e, by simp⟩
      · rcases holdKy_held name n r hn.2 k h with ⟨h1, h2⟩ | ⟨h1, h2, y, h3, h4⟩
        · exact .inl ⟨h1, by simp [h2]⟩
        · exact .inr ⟨h1, h2, y, by simp [h3], h4⟩

theorem SInv.answer {all : List Rec} {i : Nat} {ks : List Ky} {L : List Pt} (h : SInv all i ks L) (hn : (ks.map (·.name)).Nodup) (name : ByteArray) (n : Int) (hL : ∃ p ∈ L, p.key = name ∧ n ≤ p.token) : SInv all i (holdKy name n ks) L := by
  refine ⟨h.apart, h.each, fun k hk h0 => ?_⟩
  rcases holdKy_held name n ks hn k hk with ⟨_, h2⟩ | ⟨h1, _, y, h3, h4, _, h5⟩
  · exact h.held k h2 h0
  · obtain ⟨p, g1, g2, g3⟩ := hL
    by_cases hy : y.held ≤ n
    · exact ⟨p, g1, by rw [g2, h1], by omega⟩
    · by_cases hy0 : 0 < y.held
      · obtain ⟨q, q1, q2, q3⟩ := h.held y h3 hy0
        exact ⟨q, q1, by rw [q2, h4, h1], by omega⟩
      · exact ⟨p, g1, by rw [g2, h1], by omega⟩

/-- What is put. -/
theorem putsOf_mem : ∀ (ks : List Ky) (p : Pt), p ∈ putsOf ks → ∃ k ∈ ks, p = ⟨k.name, k.count, k.fold⟩
  | [], p, h => by simp [putsOf] at h
  | x :: r, p, h => by
    unfold putsOf at h
    split at h
    · rcases List.mem_cons.1 h with h | h
      · exact ⟨x, by simp, h⟩
      · obtain ⟨k, h1, h2⟩ := putsOf_mem r p h
        exact ⟨k, by simp [h1], h2⟩
    · obtain ⟨k, h1, h2⟩ := putsOf_mem r p h
      exact ⟨k, by simp [h1], h2⟩

theorem putsOf_has : ∀ (ks : List Ky) (k : Ky), k ∈ ks → k.held < k.count → ∃ p ∈ putsOf ks, p.key = k.name
  | [], k, h, _ => by simp at h
  | x :: r, k, h, hc => by
    unfold putsOf
    rcases List.mem_cons.1 h with rfl | h
    · rw [if_pos hc]; exact ⟨_, List.mem_cons_self, rfl⟩
    · obtain ⟨p, h1, h2⟩ := putsOf_has r k h hc
      split
      · exact ⟨p, List.mem_cons_of_mem _ h1, h2⟩
      · exact ⟨p, h1, h2⟩

theorem putsOf_none : ∀ (ks : List Ky), (∀ k ∈ ks, k.held = k.count) → putsOf ks = []
  | [], _ => rfl
  | x :: r, h => by
    unfold putsOf
    rw [if_neg (by have := h x (by simp); omega)]
    exact putsOf_none r (fun k hk => h k (by simp [hk]))

theorem putsOf_len : ∀ (ks : List Ky), (putsOf ks).length ≤ ks.length
  | [] => by simp [putsOf]
  | x :: r => by
    have := putsOf_len r
    unfold putsOf
    split <;> simp <;> omega

/-- In the last round: what is not yet put again holds all. -/
def Done (P : List Pt) (ks : List Ky) : Prop := ∀ k ∈ ks, k.held = k.count ∨ ∃ p ∈ P, p.key = k.name

theorem Done.first {ks : List Ky} (hf : ∀ k ∈ ks, k.held ≤ k.count) : Done (putsOf ks) ks := by
  intro k hk
  by_cases h : k.held < k.count
  · exact .inr (putsOf_has ks k hk h)
  · exact .inl (by have := hf k hk; omega)

theorem Done.next {p : Pt} {P : List Pt} {ks : List Ky} (h : Done (p :: P) ks) (hn : (ks.map (·.name)).Nodup) {n : Int} (hp : ∀ k ∈ ks, k.name = p.key → k.count = n ∧ k.held ≤ k.count) : Done P (holdKy p.key n ks) := by
  intro k hk
  rcases holdKy_held p.key n ks hn k hk with ⟨h1, h2⟩ | ⟨h1, h2, y, h3, h4, h5, h6⟩
  · rcases h k h2 with h | ⟨q, hq, e⟩
    · exact .inl h
    · rcases List.mem_cons.1 hq with rfl | hq
      · exact absurd e.symm h1
      · exact .inr ⟨q, hq, e⟩
  · have := hp y h3 h4
    exact .inl (by omega)

def tokens : List Pt → Int
  | [] => 0
  | p :: r => p.token + tokens r

def pairs (l : List (ByteArray × Int)) : Int := l.foldr (fun p n => p.2 + n) 0

theorem pairs_perm {a b : List (ByteArray × Int)} (h : a.Perm b) : pairs a = pairs b := by
  induction h with
  | nil => rfl
  | cons x _ ih => simp only [pairs, List.foldr_cons] at ih ⊢; omega
  | swap x y l => simp only [pairs, List.foldr_cons]; omega
  | trans _ _ h1 h2 => exact h1.trans h2

theorem tokens_pairs : ∀ L : List Pt, tokens L = pairs (L.map fun p => (p.key, p.token))
  | [] => rfl
  | p :: r => by
    have := tokens_pairs r
    simp only [tokens, pairs, List.map_cons, List.foldr_cons] at this ⊢
    omega

theorem counts_pairs : ∀ ks : List Ky, counts ks = pairs (ks.map fun k => (k.name, k.count))
  | [] => rfl
  | p :: r => by
    have := counts_pairs r
    simp only [counts, pairs, List.map_cons, List.foldr_cons] at this ⊢
    omega

theorem nodup_fst {α : Type} {f : α → ByteArray} {g : α → Int} {l : List α} (h : (l.map f).Nodup) : (l.map fun x => (f x, g x)).Nodup := by
  unfold List.Nodup at h ⊢
  rw [List.pairwise_map] at h ⊢
  exact h.imp fun {a b} hab e => hab (by injection e)

/-- In the end the sink holds all. -/
theorem SInv.end {all : List Rec} {i : Nat} {s : St} {L : List Pt} (h : SInv all i s.keys L) (hP : PInv all i s) (hn : Numbered all) (hf : s.fine) (hi : i = all.length) (hd : ∀ k ∈ s.keys, k.held = k.count) : tokens L = all.length := by
  have hc := hP.counts (by omega)
  rw [tokens_pairs, ← hi, ← hc, counts_pairs]
  refine pairs_perm ((List.perm_ext_iff_of_nodup (nodup_fst h.apart) (nodup_fst hP.apart)).2 fun q => ?_)
  have tok : ∀ p ∈ L, ∀ k ∈ s.keys, p.key = k.name → p.token = k.count := fun p hp k hk e => by
    have h1 := h.token hp
    have h2 := (hP.key hn hk).2
    have h3 : k.count = (tally k.name (all.take i)).1 := by rw [← h2]
    obtain ⟨p', g1, g2, g3⟩ := h.held k hk (by have := hd k hk; have := (hf.key k hk).1; omega)
    have : p' = p := nodup_key h.apart p' g1 p hp (g2.trans e.symm)
    subst this
    have := hd k hk
    rw [e] at h1
    omega
  constructor
  · intro hq
    obtain ⟨p, hp, rfl⟩ := List.mem_map.1 hq
    have h1 := h.token hp
    obtain ⟨k, hk, e⟩ := hP.there (name := p.key) (by have := (h.each p hp).1; omega)
    exact List.mem_map.2 ⟨k, hk, by rw [e, tok p hp k hk e.symm]⟩
  · intro hq
    obtain ⟨k, hk, rfl⟩ := List.mem_map.1 hq
    obtain ⟨p, g1, g2, g3⟩ := h.held k hk (by have := hd k hk; have := (hf.key k hk).1; omega)
    exact List.mem_map.2 ⟨p, g1, by rw [g2, tok p g1 k hk g2]⟩

end Go.Proofs.YthedkdbgfdjlkaaGreat

/- Passed: THE SMALL FUNCTIONS, WALKED: fold of the first so many; passing; the sink's put. -/
namespace Go.Proofs.YthedkdbgfdjlkaaGreat
set_option linter.unusedVariables false
set_option linter.unusedSimpArgs false
open Go.RowKit Go.Lib

variable {R : World → Addr → Option St → (Nat → Prop) → Prop}

theorem tally_same (key : ByteArray) (l : List Rec) {i j : Nat} (h : (tally key (l.take i)).1 = (tally key (l.take j)).1) : tally key (l.take i) = tally key (l.take j) := by
  rcases Nat.le_total i j with hij | hij
  · have e : (l.take j).take i = l.take i := by rw [List.take_take]; congr 1; omega
    have := tally_take_stop key (l.take j) i (by rw [e]; exact h)
    rwa [e] at this
  · have e : (l.take i).take j = l.take j := by rw [List.take_take]; congr 1; omega
    have := tally_take_stop key (l.take i) j (by rw [e]; exact h.symm)
    rw [e] at this
    exact this.symm

set_option maxHeartbeats 2000000 in
theorem kfold_n {w : World} {lo : Nat} {v : Value} {l : List Rec} {key : ByteArray} (m : Nat) (hr : w.ownsRow lo 34 5 v l.length (recCells l)) (hk : key ∈ names4) (hl : l.length ≤ 900) (hv : ∀ x ∈ l, 0 ≤ x.value ∧ x.value ≤ 4294967295) :
    Calls Tryz.prog 22 #[v, .string key, .int .i64 (tally key (l.take m)).1] w fun e w' => e = .returned (.int .i64 (tally key (l.take m)).2) ∧ w' = w := by
  obtain ⟨p, cap, rfl⟩ := row_any hr
  obtain ⟨hT0, hT1, hT2⟩ := tally_take_le key l m
  obtain ⟨N, hN⟩ : ∃ N, N = (tally key (l.take m)).1 := ⟨_, rfl⟩
  rw [← hN] at hT0 hT1 ⊢
  have HN : Hid (N = (tally key (l.take m)).1) := hN
  have HT1 : Hid (N ≤ (tally key l).1) := hT1
  have hNl : N ≤ 900 := by omega
  clear hN hT1 hT2
  go_enter Tryz.func22, Tryz.ntmps22
  go_wp2_with fail
  go_loopw [7, 8, 9, 10] (fun sf sc si _ wr => ∃ (i : Nat) (c f : Int), si = .int .i64 i ∧ i ≤ l.length ∧ sc = .int .i64 c ∧ sf = .int .i64 f ∧ 0 ≤ c ∧ c ≤ N ∧ Hid (tally key (l.take i) = (c, f)) ∧ Hid (wr = w)) (fun _ _ si _ _ => l.length - (intOf si).toNat)
  case atStart => exact ⟨0, 0, 0, rfl, by omega, rfl, rfl, by omega, hT0, (show _ = _ from rfl), (show _ = _ from rfl)⟩
  case round =>
    obtain ⟨i, c, f, rfl, hi, rfl, rfl, hc0, hcN, HT, HW⟩ := hrel
    have hc : Chg (fun _ => False) w wr := by rw [HW.out]; exact Chg.refl _ _
    have hrg := tally_range hk (l.take i) (0, 0) (fun x hx => hv x (List.mem_of_mem_take hx)) (by simp) (by simp only [List.length_take]; omega) (by simp)
    have hrg' : 0 ≤ f ∧ f ≤ 4294967295 := by
      have : ((l.take i).foldl (tallyOne key) (0, 0)) = (c, f) := HT.out
      rw [this] at hrg
      exact hrg
    clear hrg
    by_cases hil : i < l.length
    · have hil' : (i : Int) < (l.length : Int) := by omega
      by_cases hcn : c < N
      · obtain ⟨x, hx⟩ : ∃ x, l[i]? = some x := ⟨_, List.getElem?_eq_getElem hil⟩
        obtain ⟨g, cap', hvs, _, _, hcell⟩ := row_pos hr (by omega)
        simp only [Value.slice.injEq] at hvs
        obtain ⟨rfl, _, rfl⟩ := hvs
        have cx := recCells_at l i x hx
        have m3 := hc.cellAt (hcell _ _ cx.2.2.2.1) id
        have m4 := hc.cellAt (hcell _ _ cx.2.2.2.2) id
        have hxv := hv x (List.mem_of_getElem? hx)
        have hnx := tally_take_next key l i x hx
        rw [HT.out] at hnx
        have HNX : Hid (tally key (l.take (i + 1)) = tallyOne key (c, f) x) := hnx
        clear hcell cx hnx HN HT1
        by_cases hke : x.key = key
        · rw [hke] at m3
          have HNX' : Hid (tally key (l.take (i + 1)) = (c + 1, foldOne key (c + 1) f x.value)) := by
            show _ = _
            rw [HNX.out]; unfold tallyOne; rw [if_pos hke]
          clear HNX hke HT
          simp only [names4, List.mem_cons, List.not_mem_nil, or_false] at hk
          rcases hk with rfl | rfl | rfl | rfl
          · simp only [kC] at m3 ⊢
            go_wp2_with fail
            refine ⟨⟨i + 1, c + 1, c + 1, by go_num, by omega, rfl, rfl, by omega, by omega, HNX', HW⟩, by simp [intOf]; omega⟩
          · simp only [kS] at m3 ⊢
            go_wp2_with fail
            exact ⟨⟨i + 1, c + 1, (f + x.value) % 4294967296, by go_num, by omega, rfl, rfl, by omega, by omega, HNX', HW⟩, by simp [intOf]; omega⟩
          · simp only [kL] at m3 ⊢
            go_wp2_with fail
            exact ⟨⟨i + 1, c + 1, x.value, by go_num, by omega, rfl, rfl, by omega, by omega, HNX', HW⟩, by simp [intOf]; omega⟩
          · have hmx : foldOne kM (c + 1) f x.value = max f x.value := rfl
            rw [hmx] at HNX'
            clear hmx
            simp only [kM] at m3 HNX' ⊢
            by_cases hgt : f < x.value
            · rw [Int.max_eq_right (by omega)] at HNX'
              go_wp2_with fail
              exact ⟨⟨i + 1, c + 1, x.value, by go_num, by omega, rfl, rfl, by omega, by omega, HNX', HW⟩, by simp [intOf]; omega⟩
            · rw [Int.max_eq_left (by omega)] at HNX'
              go_wp2_with fail
              exact ⟨⟨i + 1, c + 1, f, by go_num, by omega, rfl, rfl, by omega, by omega, HNX', HW⟩, by simp [intOf]; omega⟩
        · have hkn : (x.key.toList == key.toList) = false := by
            rw [beq_eq_false_iff_ne]
            intro e
            rw [ByteArray.toList_eq, ByteArray.toList_eq] at e
            exact hke (ByteArray.ext (Array.toList_inj.1 e))
          have HNX' : Hid (tally key (l.take (i + 1)) = (c, f)) := by
            show _ = _
            rw [HNX.out]; unfold tallyOne; rw [if_neg hke]
          clear HNX hke
          go_wp2_with fail
          refine ⟨⟨i + 1, c, f, by go_num, by omega, rfl, rfl, by omega, by omega, HNX', HW⟩, by simp [intOf]; omega⟩
      · have hcN : c = N := by omega
        have HF : Hid ((tally key (l.take m)).2 = f) := by
          show _ = _
          rw [← tally_same key l (i := i) (j := m) (by rw [HT.out, ← HN.out]; exact hcN), HT.out]
        clear HT HN HT1 hcN
        go_wp2_with fail
        go_ret
        exact ⟨by rw [HF.out]; rfl, HW.out⟩
    · have hil' : ¬ (i : Int) < (l.length : Int) := by omega
      have HF : Hid ((tally key (l.take m)).2 = f) := by
        show _ = _
        have h1 := HT1.out
        have h2 := HT.out
        have h3 : l.take i = l := List.take_of_length_le (by omega)
        rw [h3] at h2
        rw [h2] at h1
        rw [← tally_same key l (i := i) (j := m) (by rw [h3, h2, ← HN.out]; simp only at h1 ⊢; omega), h3, h2]
      clear HT HN HT1
      go_wp2_with fail
      go_ret
      exact ⟨by rw [HF.out]; rfl, HW.out⟩

def exP : St := ⟨[⟨0, 1, []⟩, Ln.init, Ln.init, Ln.init], [⟨exS, 1, 5, 0⟩]⟩
def exP2 : St := ⟨[⟨0, 1, []⟩, Ln.init, Ln.init, Ln.init], [⟨exS, 1, 5, 1⟩]⟩
theorem ex_p1 : accept? (some St.init) ex0 = ((1, 0), some exP) := by rfl
theorem ex_p2 : answer? (some exP) exS 2 = (9, some exP) := by rfl
theorem ex_p3 : answer? (some exP) exS 1 = (0, some exP2) := by rfl
theorem ex_p4 : puts? (some exP) = [⟨exS, 1, 5⟩] := by rfl
theorem ex_p5 : puts? (some exP2) = [] := by rfl

set_option maxHeartbeats 1000000 in
theorem passing_any (H : Api R) (HS : ApiS R) (w : World) :
    Calls Tryz.prog 18 #[] w fun e w' => e = .returned (.bool true) ∧ Chg (fun _ => False) w w' := by
  go_enter Tryz.func18, Tryz.ntmps18
  go_wp2_with fail
  refine (H.new w).mono ?_
  rintro _ w1 ⟨a, F1, rfl, hR1, hF1, hc1⟩
  go_wp2_with fail
  refine (rec_any _ _ _ _).mono ?_
  rintro _ w2 ⟨rfl, hc2⟩
  go_wp2_with fail
  refine (H.accept ex0 (H.keep hR1 hc2) rfl ex0_fits).mono ?_
  rintro _ w3 ⟨F3, rfl, hR3, hF3, hc3⟩
  rw [ex_p1] at hR3 ⊢
  go_wp2_with fail
  refine (HS.puts hR3).mono ?_
  rintro _ w4 ⟨vp, rfl, hp4, hR4, hc4⟩
  rw [ex_p4] at hp4
  obtain ⟨g, cap, rfl, hg, hcap, hcell⟩ := row_pos hp4 (by decide)
  have d0 : w4.cell? ⟨g, 0, none⟩ = some (.string { data := #[115] }) := hcell 0 _ rfl
  have d1 : w4.cell? ⟨g, 1, none⟩ = some (.int .i64 1) := hcell 1 _ rfl
  have d2 : w4.cell? ⟨g, 2, none⟩ = some (.int .i64 5) := hcell 2 _ rfl
  have hlt3 : ∀ k, F3 k → k < w3.heap.size := fun k hk => H.lt hR3 hk
  have hlen : ([⟨exS, 1, 5⟩] : List Pt).length = 1 := rfl
  rw [hlen]
  have herr : errno? (some exP) = 0 := rfl
  rw [herr]
  clear hp4 hcell hcap hlen herr
  go_wp2_with fail
  refine (HS.answer exS 2 hR4 (by decide) (by unfold inInt; decide)).mono ?_
  rintro _ w5 ⟨F5, rfl, hR5, hF5, hc5⟩
  rw [ex_p2] at hR5 ⊢
  have hlt4 : ∀ k, F3 k → k < w4.heap.size := fun k hk => H.lt hR4 hk
  have hz34 := hc4.size
  have hz45 := hc5.size
  have hg4 : g < w4.heap.size := World.block_lt_of_cell? _ _ d0
  replace d0 := hc5.cellAt d0 (fun h => by have := hlt3 _ h; omega)
  replace d1 := hc5.cellAt d1 (fun h => by have := hlt3 _ h; omega)
  replace d2 := hc5.cellAt d2 (fun h => by have := hlt3 _ h; omega)
  have hF5g : ¬ F5 g := fun h => by
    rcases hF5 _ h with h | h
    · have := hlt3 _ h; omega
    · omega
  go_wp2_with fail
  refine (HS.answer exS 1 hR5 (by decide) (by unfold inInt; decide)).mono ?_
  rintro _ w6 ⟨F6, rfl, hR6, hF6, hc6⟩
  rw [ex_p3] at hR6 ⊢
  replace d0 := hc6.cellAt d0 hF5g
  replace d1 := hc6.cellAt d1 hF5g
  replace d2 := hc6.cellAt d2 hF5g
  have hF6g : ¬ F6 g := fun h => by
    rcases hF6 _ h with h | h
    · exact hF5g h
    · omega
  go_wp2_with fail
  refine (HS.puts hR6).mono ?_
  rintro _ w7 ⟨vq, rfl, hp7, hR7, hc7⟩
  rw [ex_p5] at hp7
  obtain ⟨pq, cq, rfl⟩ := row_any hp7
  replace d0 := hc7.cellAt d0 hF6g
  replace d1 := hc7.cellAt d1 hF6g
  replace d2 := hc7.cellAt d2 hF6g
  have herr2 : errno? (some exP2) = 0 := rfl
  rw [herr2]
  have hlen2 : ([] : List Pt).length = 0 := rfl
  rw [hlen2]
  have h3 := hc1.step hc2 (fun _ h => h.elim)
  have y3 := h3.young hF1 hF3
  have h4 := h3.step hc3 hF1
  have h5 := h4.step hc4 y3
  have y5 := h5.young y3 hF5
  have h6 := h5.step hc5 y3
  have y6 := h6.young y5 hF6
  have h7 := h6.step hc6 y5
  have hall := h7.step hc7 y6
  clear hR1 hF1 hc1 hc2 hR3 hF3 hc3 hR4 hc4 hR5 hF5 hc5 hR6 hF6 hc6 hp7 hR7 hc7 herr2 hlen2 h3 y3 h4 h5 y5 h6 y6 h7 hlt3 hlt4 hz34 hz45 hg4 hF5g hF6g hg
  go_wp2
  go_ret
  exact ⟨rfl, hall⟩

end Go.Proofs.YthedkdbgfdjlkaaGreat

/- Passed: the sink's put, WALKED. -/
namespace Go.Proofs.YthedkdbgfdjlkaaGreat
set_option linter.unusedVariables false
set_option linter.unusedSimpArgs false
open Go.RowKit Go.Lib

/-- A sink in memory. -/
structure SinkAt (w : World) (sb lo : Nat) (vl : Value) (L : List Pt) : Prop where
  list : w.cell? ⟨sb, 0, none⟩ = some vl
  fz : ∀ j, w.frozen? ⟨sb, j, none⟩ = false
  row : w.ownsRow lo 68 3 vl L.length (putCells L)
  ne : vl.ownBlock ≠ some sb

theorem SinkAt.chg {F : Nat → Prop} {w w' : World} {sb lo : Nat} {vl : Value} {L : List Pt} (h : SinkAt w sb lo vl L) (hc : Chg F w w') (hb : ¬ F sb) (hv : ∀ k, vl.ownBlock = some k → ¬ F k) : SinkAt w' sb lo vl L :=
  ⟨hc.cellAt h.list hb, fun j => (World.frozen?_of_block (w := w) (hc.block sb (World.block_lt_of_cell? _ _ h.list) hb)).trans (h.fz j), hc.row' h.row hv, h.ne⟩

theorem Tryz.infoP : (Tryz.prog.info? 68).map (fun i => (i.zero, i.size, i.bytes)) = some (some (.agg #[.string { data := #[] }, .int .i64 0, .int .i64 0]), 3, 32) := by kernel_rfl

theorem sinkPut_at (p : Pt) : ∀ (L : List Pt) (i : Nat) (q : Pt), (∀ j x, j < i → L[j]? = some x → x.key ≠ p.key) → L[i]? = some q → q.key = p.key → sinkPut p L = if q.token < p.token then L.set i p else L
  | [], i, q, _, h, _ => by simp at h
  | y :: r, 0, q, _, h, e => by
    simp at h
    subst h
    unfold sinkPut
    rw [if_pos e]
    rfl
  | y :: r, i + 1, q, hn, h, e => by
    have ih := sinkPut_at p r i q (fun j x hj hx => hn (j + 1) x (by omega) (by simpa using hx)) (by simpa using h) e
    unfold sinkPut
    rw [if_neg (hn 0 y (by omega) rfl), ih]
    split <;> rfl

theorem sinkPut_new (p : Pt) : ∀ (L : List Pt), (∀ x ∈ L, x.key ≠ p.key) → sinkPut p L = L ++ [p]
  | [], _ => rfl
  | y :: r, h => by
    unfold sinkPut
    rw [if_neg (h y (by simp)), sinkPut_new p r (fun x hx => h x (by simp [hx]))]
    rfl

theorem SinkAt.push {w w1 : World} {sb lo : Nat} {vl v' : Value} {L : List Pt} (h : SinkAt w sb lo vl L) (o : Obj) (x : Pt) (hown : w1.ownsRow lo 68 3 v' (L.length + 1) (putCells L ++ x.cells)) (hg : (w.alloc o).drew.grownBy w1 vl.ownBlock) (hw : v'.ownBlock = vl.ownBlock ∨ ∀ k, v'.ownBlock = some k → (w.alloc o).drew.heap.size ≤ k) :
    SinkAt (w1.setCell ⟨sb, 0, none⟩ v') sb lo v' (L ++ [x]) ∧ Wh w.heap.size vl v' ∧ Chg (fun k => k = sb ∨ vl.ownBlock = some k) w (w1.setCell ⟨sb, 0, none⟩ v') := by
  have hlt := World.block_lt_of_cell? _ _ h.list
  have e : (w.alloc o).drew.heap.size = w.heap.size + 1 := World.size_alloc _ _
  have c1 : Chg (fun k => vl.ownBlock = some k) w w1 := ((Chg.refl (fun k => vl.ownBlock = some k) w).alloc o).trans (G := fun k => vl.ownBlock = some k) ⟨hg.os, hg.tape, hg.output, hg.size, fun k hk hne' => hg.block k hk (fun h => hne' h.symm)⟩ (fun _ _ h => h)
  have c2 : Chg (fun k => k = sb) w1 (w1.setCell ⟨sb, 0, none⟩ v') := Chg.setCell (p := ⟨sb, 0, none⟩) (Chg.refl (fun k => k = sb) w1) (fun _ => rfl) _
  have hb : v'.ownBlock ≠ some sb := by
    rcases hw with hw | hw
    · rw [hw]; exact h.ne
    · intro hk; have := hw _ hk; simp only at hlt; omega
  refine ⟨⟨World.cell?_setCell_same _ _ _ (c1.cellAt h.list h.ne), fun j => ?_, ?_, hb⟩, ?_, ?_⟩
  · rw [World.frozen?_setCell]
    exact (World.frozen?_of_block (w := w) (c1.block sb hlt h.ne)).trans (h.fz j)
  · have := c2.row' hown (fun k hk hf => hb (by rw [← hf]; exact hk))
    rw [putCells_append]
    simpa [putCells] using this
  · rcases hw with hw | hw
    · exact .inl hw
    · exact .inr fun k hk => by have := hw k hk; omega
  · exact (c1.mono (fun k hk => .inr hk)).trans c2 (fun k _ hk => .inl hk)

theorem SinkAt.store {w : World} {sb lo g cap : Nat} {L : List Pt} (h : SinkAt w sb lo (.slice (some ⟨g, 0, none⟩) L.length cap) L) (hgs : g ≠ sb) (i : Nat) (p : Pt) :
    SinkAt (((w.setCell ⟨g, i * 3, none⟩ (.string p.key)).setCell ⟨g, i * 3 + 1, none⟩ (.int .i64 p.token)).setCell ⟨g, i * 3 + 2, none⟩ (.int .i64 p.value)) sb lo (.slice (some ⟨g, 0, none⟩) L.length cap) (L.set i p) ∧
    Chg (fun k => k = g) w (((w.setCell ⟨g, i * 3, none⟩ (.string p.key)).setCell ⟨g, i * 3 + 1, none⟩ (.int .i64 p.token)).setCell ⟨g, i * 3 + 2, none⟩ (.int .i64 p.value)) := by
  have c : Chg (fun k => k = g) w (((w.setCell ⟨g, i * 3, none⟩ (.string p.key)).setCell ⟨g, i * 3 + 1, none⟩ (.int .i64 p.token)).setCell ⟨g, i * 3 + 2, none⟩ (.int .i64 p.value)) := (((Chg.refl (fun k => k = g) w).setCell (p := ⟨g, i * 3, none⟩) (fun _ => rfl) _).setCell (p := ⟨g, i * 3 + 1, none⟩) (fun _ => rfl) _).setCell (p := ⟨g, i * 3 + 2, none⟩) (fun _ => rfl) _
  refine ⟨⟨c.cellAt h.list (fun e => hgs e.symm), fun j => (World.frozen?_of_block (w := w) (c.block sb (World.block_lt_of_cell? _ _ h.list) (fun e => hgs e.symm))).trans (h.fz j), ?_, h.ne⟩, c⟩
  rw [List.length_set, putCells_set]
  exact (((h.row.stored (i * 3) _).1.stored (i * 3 + 1) _).1.stored (i * 3 + 2) _).1

set_option maxRecDepth 100000 in
set_option maxHeartbeats 4000000 in
theorem sinkput_any {w : World} {sb lo : Nat} {vl : Value} {L : List Pt} (p : Pt) (hS : SinkAt w sb lo vl L) (hlo : lo ≤ w.heap.size) (hL : L.length ≤ 1000) :
    Calls Tryz.prog 20 #[.pointer (some ⟨sb, 0, none⟩), .agg #[.string p.key, .int .i64 p.token, .int .i64 p.value]] w fun e w' =>
      ∃ vl' t, e = .returned (.int .i64 t) ∧ SinkAt w' sb lo vl' (sinkPut p L) ∧ (∃ q ∈ sinkPut p L, q.key = p.key ∧ q.token = t) ∧ Wh w.heap.size vl vl' ∧ Chg (fun k => k = sb ∨ vl.ownBlock = some k) w w' := by
  obtain ⟨i0, hi0, hz0, hz1, hz2⟩ := info_parts Tryz.infoP
  obtain ⟨W0, hW0⟩ : ∃ W0, W0 = w.alloc (Obj.cells #[.string p.key, .int .i64 p.token, .int .i64 p.value] 68) := ⟨_, rfl⟩
  have c0 : Chg (fun _ => False) w W0 := by rw [hW0]; exact (Chg.refl _ w).alloc _
  have b0 : W0.cell? ⟨w.heap.size, 0, none⟩ = some (.string p.key) := by rw [hW0]; exact World.cell?_alloc_at _ _ _ _ rfl
  have b1 : W0.cell? ⟨w.heap.size, 1, none⟩ = some (.int .i64 p.token) := by rw [hW0]; exact World.cell?_alloc_at _ _ _ _ rfl
  have b2 : W0.cell? ⟨w.heap.size, 2, none⟩ = some (.int .i64 p.value) := by rw [hW0]; exact World.cell?_alloc_at _ _ _ _ rfl
  have hS0 := hS.chg c0 id (fun _ _ h => h)
  have hsbw : sb < w.heap.size := World.block_lt_of_cell? _ _ hS.list
  have hrw : ∀ k, vl.ownBlock = some k → k < w.heap.size := fun k hk => (hS.row.lt k hk).2
  obtain ⟨q0, cap, rfl⟩ := row_any hS.row
  go_enter Tryz.func20, Tryz.ntmps20
  go_wp2_with fail
  rw [← hW0]
  clear hW0
  go_loopw [5] (fun si wr => ∃ i : Nat, si = .int .i64 i ∧ i ≤ L.length ∧ Hid (∀ j x, j < i → L[j]? = some x → x.key ≠ p.key) ∧ Chg (fun _ => False) W0 wr) (fun si _ => L.length - (intOf si).toNat)
  case atStart => exact ⟨0, rfl, by omega, (fun j x hj => by omega), Chg.refl _ _⟩
  case round =>
    obtain ⟨i, rfl, hi, HN, hc⟩ := hrel
    have hS1 := hS0.chg hc id (fun _ _ h => h)
    have l1 := hS1.list
    have y0 := hc.cellAt b0 id
    have y1 := hc.cellAt b1 id
    have y2 := hc.cellAt b2 id
    have hcw : Chg (fun _ => False) w wr := c0.trans hc (fun _ _ h => h)
    have hz := hcw.size
    by_cases hil : i < L.length
    · have hil' : (i : Int) < (L.length : Int) := by omega
      obtain ⟨x, hx⟩ : ∃ x, L[i]? = some x := ⟨_, List.getElem?_eq_getElem hil⟩
      obtain ⟨g, cap', hvs, _, _, hcell⟩ := row_pos hS1.row (by omega)
      simp only [Value.slice.injEq] at hvs
      obtain ⟨rfl, _, rfl⟩ := hvs
      have cx := putCells_at L i x hx
      have m0 := hcell _ _ cx.1
      have m1 := hcell _ _ cx.2.1
      have m2 := hcell _ _ cx.2.2
      have hgs : g ≠ sb := fun e => hS.ne (by rw [← e]; rfl)
      have hgw : g < w.heap.size := hrw g rfl
      clear hcell
      by_cases hke : x.key = p.key
      · rw [hke] at m0
        by_cases hgt : x.token < p.token
        · have f0 := row_frozen hS1.row (i * 3)
          have f1 := row_frozen hS1.row (i * 3 + 1)
          have f2 := row_frozen hS1.row (i * 3 + 2)
          go_wp2_with fail
          go_quiet (fail)
          go_wp2_with fail
          go_quiet (fail)
          go_wp2_with fail
          go_region
          go_wp2_with fail
          go_ret
          have e := sinkPut_at p L i x HN.out hx hke
          rw [if_pos hgt] at e
          refine ⟨.slice (some ⟨g, 0, none⟩) L.length cap, p.token, ?_, ?_, ?_, Wh.refl _ _, ?_⟩
          · rfl
          · rw [e]
            exact ((hS1.chg (((Quiet.refl wr).drewN _).chg (fun _ => False)) id (fun _ _ h => h)).store hgs i p).1
          · rw [e]
            exact ⟨p, List.mem_iff_getElem?.2 ⟨i, List.getElem?_set_self hil⟩, rfl, rfl⟩
          · exact ((hcw.trans (((Quiet.refl wr).drewN _).chg (fun _ => False)) (fun _ _ h => h)).mono (fun _ h => h.elim)).trans ((hS1.chg (((Quiet.refl wr).drewN _).chg (fun _ => False)) id (fun _ _ h => h)).store hgs i p).2 (fun k _ h => .inr (by rw [h]; rfl))
        · go_wp2_with fail
          go_quiet (fail)
          go_wp2_with fail
          go_quiet (fail)
          go_wp2_with fail
          go_ret
          have e := sinkPut_at p L i x HN.out hx hke
          rw [if_neg (by omega)] at e
          refine ⟨.slice (some ⟨g, 0, none⟩) L.length cap, x.token, rfl, ?_, ?_, Wh.refl _ _, ?_⟩
          · rw [e]
            exact hS1.chg (((Quiet.refl wr).drewN _).chg (fun _ => False)) id (fun _ _ h => h)
          · rw [e]
            exact ⟨x, List.mem_of_getElem? hx, hke, rfl⟩
          · exact (hcw.trans (((Quiet.refl wr).drewN _).chg (fun _ => False)) (fun _ _ h => h)).mono (fun _ h => h.elim)
      · have hkn : (x.key.toList == p.key.toList) = false := by
          rw [beq_eq_false_iff_ne]
          intro e
          rw [ByteArray.toList_eq, ByteArray.toList_eq] at e
          exact hke (ByteArray.ext (Array.toList_inj.1 e))
        have HN' : Hid (∀ j x, j < i + 1 → L[j]? = some x → x.key ≠ p.key) := fun j y hj hy => by
          by_cases e : j = i
          · subst e; rw [hx] at hy; rw [← Option.some.inj hy]; exact hke
          · exact HN.out j y (by omega) hy
        go_wp2_with fail
        go_quiet (fail)
        go_wp2_with fail
        exact ⟨⟨i + 1, by go_num, by omega, HN', hc.trans (((Quiet.refl _).drewN _).chg _) (fun _ _ h => h)⟩, by simp [intOf]; omega⟩
    · have hil' : ¬ (i : Int) < (L.length : Int) := by omega
      have HE : Hid (sinkPut p L = L ++ [p]) := sinkPut_new p L (fun x hx => by
        obtain ⟨j, hj, e⟩ := List.getElem_of_mem hx
        exact HN.out j x (by omega) (by rw [List.getElem?_eq_getElem hj, e]))
      have s1 : Hid (∀ j u, p.cells[j]? = some u → ((wr.alloc (.cells #[.string p.key, .int .i64 p.token, .int .i64 p.value] 68)).drew).cell? ((⟨wr.heap.size, 0, none⟩ : Addr).add j) = some u) := by
        intro j u hj
        match j, hj with
        | 0, hj => simp [Pt.cells] at hj; subst hj; simp [Addr.add]
        | 1, hj => simp [Pt.cells] at hj; subst hj; simp [Addr.add]
        | 2, hj => simp [Pt.cells] at hj; subst hj; simp [Addr.add]
        | k + 3, hj => simp [Pt.cells] at hj
      have s2 : Hid (∀ u ∈ p.cells, u.oneCell' = true) := by
        intro u hu
        simp [Pt.cells] at hu
        rcases hu with rfl | rfl | rfl <;> rfl
      have s3 : Hid (L.length + 1 ≤ maxLen) := by show _ ≤ maxLen; unfold maxLen; omega
      have s4 : Hid ((L.length + 1) * 32 ≤ 140737488355328) := by show _ ≤ _; omega
      have s5 : Hid (lo ≤ ((wr.alloc (.cells #[.string p.key, .int .i64 p.token, .int .i64 p.value] 68)).drew).heap.size) := by show lo ≤ (wr.alloc _).heap.size; rw [World.size_alloc]; omega
      have s6 : Hid (∀ (v' : Value) (w1 : World), w1.ownsRow lo 68 3 v' (L.length + 1) (putCells L ++ p.cells) → (wr.alloc (.cells #[.string p.key, .int .i64 p.token, .int .i64 p.value] 68)).drew.grownBy w1 (Value.slice q0 L.length cap).ownBlock → (v'.ownBlock = (Value.slice q0 L.length cap).ownBlock ∨ ∀ k, v'.ownBlock = some k → (wr.alloc (.cells #[.string p.key, .int .i64 p.token, .int .i64 p.value] 68)).drew.heap.size ≤ k) → w1.cell? ⟨sb, 0, none⟩ = some (.slice q0 L.length cap) ∧ w1.frozen? ⟨sb, 0, none⟩ = false ∧ (w1.setCell ⟨sb, 0, none⟩ v').cell? ⟨w.heap.size, 1, none⟩ = some (.int .i64 p.token) ∧ Hid (SinkAt (w1.setCell ⟨sb, 0, none⟩ v') sb lo v' (L ++ [p]) ∧ Wh wr.heap.size (.slice q0 L.length cap) v' ∧ Chg (fun k => k = sb ∨ (Value.slice q0 L.length cap).ownBlock = some k) wr (w1.setCell ⟨sb, 0, none⟩ v'))) := by
        intro v' w1 hown hg hw
        have hlt := World.block_lt_of_cell? _ _ hS1.list
        have hb := hg.block sb (by show sb < (wr.alloc _).heap.size; rw [World.size_alloc]; simp only at hlt; omega) (fun h => hS1.ne h.symm)
        have hb' : w1.heap[sb]? = wr.heap[sb]? := hb.trans (Below.heap_alloc _ _ _ hlt)
        have hpush := hS1.push _ p hown hg hw
        refine ⟨(World.cell?_of_block (w := wr) hb').trans hS1.list, (World.frozen?_of_block (w := wr) hb').trans (hS1.fz 0), hpush.2.2.cellAt y1 (fun h => ?_), hpush⟩
        rcases h with h | h
        · omega
        · have := hrw _ h; omega
      have hpa : (wr.alloc (.cells #[.string p.key, .int .i64 p.token, .int .i64 p.value] 68)).cell? ⟨sb, 0, none⟩ = some (.slice q0 L.length cap) := (World.cell?_alloc_lt wr _ _ (World.block_lt_of_cell? _ _ hS1.list)).trans hS1.list
      go_wp2_with fail
      go_region_law (refine step_append_own rfl (.tmp 56) (.tmp 58) 61 rfl lo 68 i0 _ 3 32 Tryz.underlying61 hi0 hz0 hz1 hz2 rfl (by decide) _ L.length (putCells L) (by simp [Act.eval, Act.put]) (hS1.row.alloc _) ⟨wr.heap.size, 0, none⟩ 1 1 p.cells (by simp [Act.eval, Act.put]) rfl s1.out s2.out s3.out s4.out s5.out ?_; intro v' w1 hown hgrow hwhere; obtain ⟨q', cap', rfl⟩ := row_any hown; obtain ⟨hp1, hz1', hy1, hh⟩ := s6.out (.slice q' (L.length + 1) cap') w1 hown hgrow hwhere)
      all_goals
        go_wp2_with fail
        go_ret
        refine ⟨.slice q' (L.length + 1) cap', p.token, rfl, by rw [HE.out]; exact hh.out.1, by rw [HE.out]; exact ⟨p, by simp, rfl, rfl⟩, (Wh.refl _ _).trans hh.out.2.1 hz, (hcw.mono (fun _ h => h.elim)).trans hh.out.2.2 (fun _ _ h => h)⟩

end Go.Proofs.YthedkdbgfdjlkaaGreat

/- Passed: what holds from call to call. -/
namespace Go.Proofs.YthedkdbgfdjlkaaGreat
set_option linter.unusedVariables false
set_option linter.unusedSimpArgs false
open Go.RowKit Go.Lib

variable {R : World → Addr → Option St → (Nat → Prop) → Prop}

/-- The relay, the sink and the records beside one another. -/
structure PHalf (R : World → Addr → Option St → (Nat → Prop) → Prop) (w : World) (a : Addr) (sb lo : Nat) (va vl : Value) (all : List Rec) (L : List Pt) (s : St) (F : Nat → Prop) : Prop where
  rel : R w a (some s) F
  snk : SinkAt w sb lo vl L
  row : w.ownsRow lo 34 5 va all.length (recCells all)
  fs : ¬ F sb
  fl : ∀ k, vl.ownBlock = some k → ¬ F k
  fa : ∀ k, va.ownBlock = some k → ¬ F k
  ao : va.ownBlock ≠ some sb
  sep : ∀ g, va.ownBlock = some g → vl.ownBlock ≠ some g
  lo : lo ≤ w.heap.size

variable {w w' : World} {a : Addr} {sb lo : Nat} {va vl vl' vp : Value} {all : List Rec} {L L' : List Pt} {s s' : St} {F F' : Nat → Prop}

theorem PHalf.keep (H : Api R) (h : PHalf R w a sb lo va vl all L s F) (c : Chg (fun _ => False) w w') : PHalf R w' a sb lo va vl all L s F :=
  ⟨H.keep h.rel c, h.snk.chg c id (fun _ _ h => h), c.row' h.row (fun _ _ h => h), h.fs, h.fl, h.fa, h.ao, h.sep, Nat.le_trans h.lo c.size⟩

theorem PHalf.call (h : PHalf R w a sb lo va vl all L s F) (c : Chg F w w') (hF : ∀ k, F' k → F k ∨ w.heap.size ≤ k) (hR : R w' a (some s') F') : PHalf R w' a sb lo va vl all L s' F' := by
  have hob : sb < w.heap.size := World.block_lt_of_cell? _ _ h.snk.list
  refine ⟨hR, h.snk.chg c h.fs h.fl, c.row' h.row h.fa, fun hk => ?_, fun k hk hf => ?_, fun k hk hf => ?_, h.ao, h.sep, Nat.le_trans h.lo c.size⟩
  · rcases hF _ hk with e | e
    · exact h.fs e
    · omega
  · rcases hF _ hf with e | e
    · exact h.fl k hk e
    · have := (h.snk.row.lt k hk).2; omega
  · rcases hF _ hf with e | e
    · exact h.fa k hk e
    · have := (h.row.lt k hk).2; omega

theorem PHalf.put (H : Api R) (h : PHalf R w a sb lo va vl all L s F) (ho : SinkAt w' sb lo vl' L') (hW : Wh w.heap.size vl vl') (c : Chg (fun k => k = sb ∨ vl.ownBlock = some k) w w') : PHalf R w' a sb lo va vl' all L' s F := by
  refine ⟨H.stable h.rel (fun k hk => c.block k (H.lt h.rel hk) (fun e => ?_)), ho, c.row' h.row (fun k hk e => ?_), h.fs, fun k hk hf => ?_, h.fa, h.ao, fun g hg hv => ?_, Nat.le_trans h.lo c.size⟩
  · rcases e with e | e
    · exact h.fs (by rw [← e]; exact hk)
    · exact h.fl k e hk
  · rcases e with e | e
    · exact h.ao (by rw [← e]; exact hk)
    · exact h.sep k hk e
  · rcases hW with e | e
    · exact h.fl k (by rw [← e]; exact hk) hf
    · have := e k hk
      have := H.lt h.rel hf
      omega
  · rcases hW with e | e
    · exact h.sep g hg (by rw [← e]; exact hv)
    · have := e g hv
      have := (h.row.lt g hg).2
      omega

/-- What is to be put, in memory beside them. -/
structure PutsAt (w : World) (sb lo : Nat) (vl vp : Value) (F : Nat → Prop) (P : List Pt) : Prop where
  row : w.ownsRow lo 68 3 vp P.length (putCells P)
  fp : ∀ k, vp.ownBlock = some k → ¬ F k
  ns : vp.ownBlock ≠ some sb
  sep : ∀ g, vp.ownBlock = some g → vl.ownBlock ≠ some g

theorem PutsAt.keep {P : List Pt} (h : PutsAt w sb lo vl vp F P) (c : Chg (fun _ => False) w w') : PutsAt w' sb lo vl vp F P :=
  ⟨c.row' h.row (fun _ _ h => h), h.fp, h.ns, h.sep⟩

theorem PutsAt.call {P : List Pt} (h : PutsAt w sb lo vl vp F P) (c : Chg F w w') (hF : ∀ k, F' k → F k ∨ w.heap.size ≤ k) : PutsAt w' sb lo vl vp F' P := by
  refine ⟨c.row' h.row h.fp, fun k hk hf => ?_, h.ns, h.sep⟩
  rcases hF _ hf with e | e
  · exact h.fp k hk e
  · have := (h.row.lt k hk).2; omega

theorem PutsAt.put {P : List Pt} (h : PutsAt w sb lo vl vp F P) (hW : Wh w.heap.size vl vl') (c : Chg (fun k => k = sb ∨ vl.ownBlock = some k) w w') : PutsAt w' sb lo vl' vp F P := by
  refine ⟨c.row' h.row (fun k hk e => ?_), h.fp, h.ns, fun g hg hv => ?_⟩
  · rcases e with e | e
    · exact h.ns (by rw [← e]; exact hk)
    · exact h.sep k hk e
  · rcases hW with e | e
    · exact h.sep g hg (by rw [← e]; exact hv)
    · have := e g hv
      have := (h.row.lt g hg).2
      omega

/-- Just told. -/
theorem PutsAt.first (H : Api R) {P : List Pt} (h : PHalf R w a sb lo va vl all L s F) (hr : w'.ownsRow w.heap.size 68 3 vp P.length (putCells P)) : PutsAt w' sb lo vl vp F P := by
  have hob : sb < w.heap.size := World.block_lt_of_cell? _ _ h.snk.list
  refine ⟨row_lower hr h.lo, fun k hk hf => ?_, fun e => ?_, fun g hg hv => ?_⟩
  · have := (hr.lt k hk).1
    have := H.lt h.rel hf
    omega
  · have := (hr.lt _ e).1; omega
  · have := (hr.lt g hg).1
    have := (h.snk.row.lt g hv).2
    omega

/-- What is young stays so. -/
theorem young_put {w0 : World} (h : Chg (fun _ => False) w0 w) (ho : SinkAt w sb w0.heap.size vl L) (hob : w0.heap.size ≤ sb) (c : Chg (fun k => k = sb ∨ vl.ownBlock = some k) w w') : Chg (fun _ => False) w0 w' :=
  h.step c (fun k hk => by
    rcases hk with e | e
    · omega
    · exact (ho.row.lt k e).1)

theorem SInv.key {i : Nat} (h : SInv all i s.keys L) (hP : PInv all i s) (hn : Numbered all) {p : Pt} (hp : p ∈ L) : p.key ∈ names4 := by
  obtain ⟨h1, _⟩ := h.each p hp
  have h2 := h.token hp
  obtain ⟨k, hk, e⟩ := hP.there (name := p.key) (by omega)
  rw [← e]
  exact (hP.key hn hk).1

theorem SInv.few {i : Nat} (h : SInv all i s.keys L) (hP : PInv all i s) (hn : Numbered all) : L.length ≤ 4 := by
  have h1 := h.apart.length_le_of_subset (l₂ := names4) (fun x hx => by
    obtain ⟨p, hp, rfl⟩ := List.mem_map.1 hx
    exact h.key hP hn hp)
  rw [List.length_map] at h1
  exact h1

/-- Those that are put are keys as they stand. -/
def Putn (all : List Rec) (m : Nat) (P : List Pt) : Prop := ∀ p ∈ P, (⟨p.key, p.token, p.value, 0⟩ : Ky) ∈ keysOf (all.take m) []

theorem PInv.putn {m : Nat} (h : PInv all m s) : Putn all m (putsOf s.keys) := fun p hp => by
  obtain ⟨k, hk, rfl⟩ := putsOf_mem _ _ hp
  rw [← h.keys]
  exact List.mem_map.2 ⟨k, hk, rfl⟩

theorem PInv.ofPut {m : Nat} (h : PInv all m s) (hf : s.fine) {P : List Pt} (hp : Putn all m P) {p : Pt} (hm : p ∈ P) : ∃ k ∈ s.keys, k.name = p.key ∧ k.count = p.token ∧ 1 ≤ p.token ∧ (p.token, p.value) = tally p.key (all.take m) := by
  have h1 := hp p hm
  have h2 := (keysOf_tally (all.take m)).2.1 _ h1
  rw [← h.keys] at h1
  obtain ⟨k, hk, e⟩ := List.mem_map.1 h1
  have e1 : k.name = p.key := by have := congrArg Ky.name e; exact this
  have e2 : k.count = p.token := by have := congrArg Ky.count e; exact this
  exact ⟨k, hk, e1, e2, by have := (hf.key k hk).1; omega, h2⟩

theorem row_cut {lo : Nat} {e : TypeId} {size n m cap : Nat} {p : Option Addr} {xs : List Value} (h : w.ownsRow lo e size (.slice p n cap) n xs) (hm : m ≤ n) : w.ownsRow lo e size (.slice p m cap) m (xs.take (m * size)) := by
  refine ⟨?_, ?_⟩
  · rw [List.length_take, h.1]
    exact Nat.min_eq_left (Nat.mul_le_mul_right _ hm)
  · rcases h.2 with ⟨hv, hz⟩ | ⟨g, cap', cur, hv, hbg, hg, hcap, hmax, hcur, htake⟩
    · simp only [Value.slice.injEq] at hv
      obtain ⟨rfl, _, rfl⟩ := hv
      have : m = 0 := by omega
      subst this
      exact .inl ⟨rfl, rfl⟩
    · simp only [Value.slice.injEq] at hv
      obtain ⟨rfl, _, rfl⟩ := hv
      refine .inr ⟨g, cap, cur, rfl, hbg, hg, by omega, hmax, hcur, ?_⟩
      rw [← htake, List.take_take]
      congr 1
      exact (Nat.min_eq_left (Nat.mul_le_mul_right _ hm)).symm

theorem recCells_take : ∀ (l : List Rec) (m : Nat), (recCells l).take (m * 5) = recCells (l.take m)
  | [], m => by simp [recCells]
  | x :: r, 0 => by simp [recCells]
  | x :: r, m + 1 => by
    rw [show (m + 1) * 5 = m * 5 + 5 by omega]
    simp [recCells, Rec.cells, recCells_take r m]

theorem tokens_take_next {L : List Pt} {q : Nat} {p : Pt} (h : L[q]? = some p) : tokens (L.take (q + 1)) = tokens (L.take q) + p.token := by
  obtain ⟨hl, e⟩ := List.getElem?_eq_some_iff.1 h
  rw [List.take_succ_eq_append_getElem hl, e]
  have : ∀ (a b : List Pt), tokens (a ++ b) = tokens a + tokens b := by
    intro a
    induction a with
    | nil => intro b; simp [tokens]
    | cons x r ih => intro b; simp [tokens, ih]; omega
  rw [this]
  simp [tokens]

theorem tokens_bound : ∀ {L : List Pt}, (∀ p ∈ L, 1 ≤ p.token ∧ p.token ≤ 1000) → 0 ≤ tokens L ∧ tokens L ≤ 1000 * L.length
  | [], _ => by simp [tokens]
  | p :: r, h => by
    have h1 := h p (by simp)
    have h2 := tokens_bound (L := r) (fun q hq => h q (by simp [hq]))
    simp [tokens]
    omega

end Go.Proofs.YthedkdbgfdjlkaaGreat
