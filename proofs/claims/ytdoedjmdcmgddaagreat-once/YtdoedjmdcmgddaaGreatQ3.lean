/- THE QUEUE's Push, WALKED. -/
import Derived.Test.YtdoedjmdcmgddaaGreatQ2
import Derived.Deep.RegionLaw
namespace Go.Proofs.YtdoedjmdcmgddaaGreat
set_option linter.unusedVariables false
set_option linter.unusedSimpArgs false
open Go.RowKit

theorem row_lower {w : World} {lo lo' : Nat} {e : TypeId} {size : Nat} {v : Value} {n : Nat} {xs : List Value} (h : w.ownsRow lo e size v n xs) (hl : lo' ≤ lo) : w.ownsRow lo' e size v n xs := by
  refine ⟨h.1, ?_⟩
  rcases h.2 with hn | ⟨g, cap, cur, hv, hb, r⟩
  · exact .inl hn
  · exact .inr ⟨g, cap, cur, hv, Nat.le_trans hl hb, r⟩

/-- An append onto a row of the call's own: the row stays where it is, or is a new one. -/
theorem run_append_where {P : Program} (w : World) (base : Nat) (t ty e : TypeId) (i : TypeInfo) (z : Value) (size bytes : Nat) (h1 : P.underlying t = some (.slice e)) (h2 : P.info? e = some i) (h3 : i.zero = some z) (h4 : i.size = size) (h5 : i.bytes = bytes) (h6 : z.cells.size = size) (h7 : 0 < size)
    (v : Value) (n : Nat) (xs : List Value) (hown : w.ownsRow base e size v n xs)
    (ad : Addr) (m c : Nat) (news : List Value) (hn : news.length = m * size) (hc : ∀ j u, news[j]? = some u → w.cell? (ad.add j) = some u) (h1c : ∀ u ∈ news, u.oneCell' = true)
    (b1 : n + m ≤ maxLen) (b2 : (n + m) * bytes ≤ 140737488355328) (hb : base ≤ w.heap.size) :
    ∃ v' w', (Builtin.append_ #[t, t] ty #[v, .slice (some ad) m c]).run P w = .ok v' w' ∧ w'.ownsRow base e size v' (n + m) (xs ++ news) ∧ w.grownBy w' v.ownBlock ∧
      (v'.ownBlock = v.ownBlock ∨ ∀ k, v'.ownBlock = some k → w.heap.size ≤ k) := by
  have hown0 := hown
  rcases hown.2 with ⟨rfl, rfl⟩ | ⟨g, cap, cur, rfl, hbg, hg, hcap, hmax, hcur, htake⟩
  · obtain rfl : xs = [] := List.eq_nil_of_length_eq_zero (by simpa using hown.1)
    obtain ⟨v', w', hrun, r1, r2, _⟩ := run_append_own (P := P) w w.heap.size t ty e i z size bytes h1 h2 h3 h4 h5 h6 h7 (.slice none 0 0) 0 [] (World.ownsRow_nil w _ e size) ad m c news hn hc h1c b1 b2 (Nat.le_refl _)
    exact ⟨v', w', hrun, row_lower r1 hb, r2, .inr fun k hk => (r1.lt k hk).1⟩
  · have hcells : ∀ j u, xs[j]? = some u → w.cell? ((⟨g, 0, none⟩ : Addr).add j) = some u := World.ownsRow.cells hown (g := g) rfl
    by_cases hroom : n + m ≤ cap
    · obtain ⟨v', w', hrun, r1, r2, _⟩ := run_append_own (P := P) w base t ty e i z size bytes h1 h2 h3 h4 h5 h6 h7 _ n xs hown0 ad m c news hn hc h1c b1 b2 hb
      subst h4
      have hsp : ∀ j, j < news.length → (w.cell? ⟨g, 0 + n * i.size + j, none⟩).isSome = true ∧ w.frozen? ⟨g, 0 + n * i.size + j, none⟩ = false := by
        intro j hj
        have hlt : 0 + n * i.size + j < cur.size := by
          rw [hcur]
          have : (n + m) * i.size ≤ cap * i.size := Nat.mul_le_mul_right _ hroom
          rw [Nat.add_mul] at this
          omega
        constructor
        · simp [World.cell?, hg]; omega
        · simp [World.frozen?, hg]
      have hrun2 := run_append_room_cells (P := P) w t ty e i h1 h2 g 0 n cap ad m c news hn hc h1c hroom (fun j hj => (hsp j hj).1) (fun j hj => (hsp j hj).2)
      rw [hrun2] at hrun
      have hv : v' = .slice (some ⟨g, 0, none⟩) (n + m) cap := by
        injection hrun with e1 e2
        exact e1.symm
      refine ⟨v', w', hrun2.trans hrun, r1, r2, .inl ?_⟩
      rw [hv]; rfl
    · obtain ⟨v', w', hrun, r1, r2⟩ := run_append_arg_grows (P := P) w t ty e i z size bytes h1 h2 h3 h4 h5 h6 h7 ⟨g, 0, none⟩ n cap xs hown.1 hcells ad m c news hn hc (by omega) b1 b2
      exact ⟨v', w', hrun, row_lower r1 hb, ⟨r2.os, r2.tape, r2.output, r2.size, fun k hk _ => r2.block k hk (by simp)⟩, .inr fun k hk => (r1.lt k hk).1⟩

/-- The same as one step of a region that draws. -/
theorem step_append_own {P : Program} {ops : Array Oper} {o : Oper} {a : Act} {w : World} {K : Act → World → Prop} {Q : Exit → Act → World → Prop} {E : Prop}
    (hg : o.guard = none) (s x : Operand) (t : TypeId) (hop : o.op = Op.call { callee := Callee.builtin Builtin.append, args := #[s, x], argTypes := #[t, t] })
    (base : Nat) (e : TypeId) (i : TypeInfo) (z : Value) (size bytes : Nat) (h1 : P.underlying t = some (.slice e)) (h2 : P.info? e = some i) (h3 : i.zero = some z) (h4 : i.size = size) (h5 : i.bytes = bytes) (h6 : z.cells.size = size) (h7 : 0 < size)
    (v : Value) (n : Nat) (xs : List Value) (hs : a.eval s = v) (hown : w.ownsRow base e size v n xs)
    (ad : Addr) (m c : Nat) (news : List Value) (hx : a.eval x = .slice (some ad) m c) (hn : news.length = m * size) (hc : ∀ j u, news[j]? = some u → w.cell? (ad.add j) = some u) (h1c : ∀ u ∈ news, u.oneCell' = true)
    (b1 : n + m ≤ maxLen) (b2 : (n + m) * bytes ≤ 140737488355328) (hb : base ≤ w.heap.size)
    (hK : ∀ v' w', w'.ownsRow base e size v' (n + m) (xs ++ news) → w.grownBy w' v.ownBlock → (v'.ownBlock = v.ownBlock ∨ ∀ k, v'.ownBlock = some k → w.heap.size ≤ k) → K (a.put o.dst v') w') :
    if Region.wanted o (yielded ops a.tmps) = true then Oper.wp P o a w K Q else E := by
  have hw : Region.wanted o (yielded ops a.tmps) = true := by simp [Region.wanted, hg]
  rw [if_pos hw]
  obtain ⟨v', w', hrun, r1, r2, r3⟩ := run_append_where (P := P) w base t o.type e i z size bytes h1 h2 h3 h4 h5 h6 h7 v n xs hown ad m c news hn hc h1c b1 b2 hb
  unfold Oper.wp
  simp [execOp, hop, resolve, invoke, builtin, hs, hx, hrun, Result.andThen]
  exact hK v' w' r1 r2 r3

theorem wtCells_append : ∀ (l : List Wt) (x : Wt), wtCells (l ++ [x]) = wtCells l ++ x.cells
  | [], x => rfl
  | y :: r, x => by simp [wtCells, wtCells_append r x]

theorem Tryz.infoW : (Tryz.prog.info? 144).map (fun i => (i.zero, i.size, i.bytes)) = some (some (.agg #[.int .i64 0, .string ⟨#[]⟩, .int .i64 0]), 3, 32) := by kernel_rfl

theorem assert_waiter (v : Value) (w : World) : (Instr.typeAssert (.iface 144 v) 20 144 false).run Tryz.prog w = .ok v w := by kernel_rfl

set_option maxRecDepth 100000 in
set_option maxHeartbeats 1000000 in
theorem qPush_any (lo : Nat) (p : Addr) (v : Value) (n : Nat) (qs : List Wt) (x : Wt) (w : World) (hp : w.cell? p = some v) (hz : w.frozen? p = false) (hr : w.ownsRow lo 144 3 v n (wtCells qs)) (hne : v.ownBlock ≠ some p.block) (hlo : lo ≤ w.heap.size) (hn : n ≤ 1000) :
    Calls Tryz.prog 183 #[.pointer (some p), .iface 144 (.agg #[.int .i64 x.num, .string x.key, .int .i64 x.val])] w fun e w' => ∃ v', e = .returned (.tuple #[]) ∧
      w'.cell? p = some v' ∧ w'.ownsRow lo 144 3 v' (n + 1) (wtCells (qs ++ [x])) ∧ (v'.ownBlock = v.ownBlock ∨ ∀ k, v'.ownBlock = some k → w.heap.size ≤ k) ∧ Slots p.block (fun j => j = p.off) w w' ∧ Chg (fun k => k = p.block ∨ v.ownBlock = some k) w w' := by
  obtain ⟨q, cap, rfl⟩ := row_any hr
  obtain ⟨i0, hi, hz0, hz1, hz2⟩ := info_parts Tryz.infoW
  have hta := assert_waiter
  have s1 : Hid (∀ j u, x.cells[j]? = some u → ((w.alloc (.cells #[.int .i64 x.num, .string x.key, .int .i64 x.val] 144)).drew).cell? ((⟨w.heap.size, 0, none⟩ : Addr).add j) = some u) := by
    intro j u hj
    match j, hj with
    | 0, hj => simp [Wt.cells] at hj; subst hj; simp [Addr.add]
    | 1, hj => simp [Wt.cells] at hj; subst hj; simp [Addr.add]
    | 2, hj => simp [Wt.cells] at hj; subst hj; simp [Addr.add]
    | k + 3, hj => simp [Wt.cells] at hj
  have s2 : Hid (∀ u ∈ x.cells, u.oneCell' = true) := by
    intro u hu
    simp [Wt.cells] at hu
    rcases hu with rfl | rfl | rfl <;> rfl
  have s3 : Hid (n + 1 ≤ maxLen) := by show n + 1 ≤ maxLen; unfold maxLen; omega
  have s4 : Hid ((n + 1) * 32 ≤ 140737488355328) := by show (n + 1) * 32 ≤ 140737488355328; omega
  have s5 : Hid (lo ≤ ((w.alloc (.cells #[.int .i64 x.num, .string x.key, .int .i64 x.val] 144)).drew).heap.size) := by show lo ≤ (w.alloc _).heap.size; rw [World.size_alloc]; omega
  have hlt := World.block_lt_of_cell? w p hp
  have s6 : Hid (∀ (v' : Value) (w1 : World), (w.alloc (.cells #[.int .i64 x.num, .string x.key, .int .i64 x.val] 144)).drew.grownBy w1 (Value.slice q n cap).ownBlock → w1.cell? p = some (.slice q n cap) ∧ w1.frozen? p = false ∧ Chg (fun k => k = p.block ∨ (Value.slice q n cap).ownBlock = some k) w w1 ∧ Slots p.block (fun j => j = p.off) w w1) := by
    intro v' w1 hg
    have hpn : some p.block ≠ (Value.slice q n cap).ownBlock := fun h => hne h.symm
    have hb := hg.block p.block (by show p.block < (w.alloc _).heap.size; rw [World.size_alloc]; omega) hpn
    have hb' : w1.heap[p.block]? = w.heap[p.block]? := hb.trans (Below.heap_alloc _ _ _ hlt)
    refine ⟨(World.cell?_of_block (w := w) hb').trans hp, (World.frozen?_of_block (w := w) hb').trans hz, ?_, ?_⟩
    · refine ((Chg.refl _ w).alloc _).trans (G := fun k => (Value.slice q n cap).ownBlock = some k) ⟨hg.os, hg.tape, hg.output, hg.size, fun k hk hne' => hg.block k hk (fun h => hne' h.symm)⟩ (fun _ _ h => Or.inr h)
    · exact Slots.of_block _ hb'
  have hpa : (w.alloc (.cells #[.int .i64 x.num, .string x.key, .int .i64 x.val] 144)).cell? p = some (.slice q n cap) := (World.cell?_alloc_lt w _ p hlt).trans hp
  clear hlt
  go_enter Tryz.func183, Tryz.ntmps183
  go_wp2
  go_region_law (refine step_append_own rfl (.tmp 7) (.tmp 10) 92 rfl lo 144 i0 _ 3 32 Tryz.underlying92 hi hz0 hz1 hz2 rfl (by decide) _ n (wtCells qs) (by simp [Act.eval, Act.put]) (hr.alloc _) ⟨w.heap.size, 0, none⟩ 1 1 x.cells (by simp [Act.eval, Act.put]) rfl s1.out s2.out s3.out s4.out s5.out ?_; intro v' w1 hown hgrow hwhere; obtain ⟨q', cap', rfl⟩ := row_any hown; obtain ⟨hp1, hz1', hc1, hl1⟩ := s6.out (.slice q' (n + 1) cap') w1 hgrow)
  all_goals
    go_end0
    have hb : (Value.slice q' (n + 1) cap').ownBlock ≠ some p.block := by
      rcases hwhere with h | h
      · rw [h]; exact hne
      · intro hk
        have h1 := h _ hk
        have h2 := World.block_lt_of_cell? w p hp
        have e : ((w.alloc (.cells #[.int .i64 x.num, .string x.key, .int .i64 x.val] 144)).drew).heap.size = w.heap.size + 1 := World.size_alloc _ _
        omega
    refine ⟨_, rfl, World.cell?_setCell_same w1 p _ hp1, ?_, ?_, hl1.setCell _ (fun _ => rfl), ?_⟩
    · rw [wtCells_append]
      exact ownsRow_setCell_other hown hb _
    · rcases hwhere with h | h
      · exact .inl h
      · refine .inr fun k hk => ?_
        have h1 := h k hk
        have e : ((w.alloc (.cells #[.int .i64 x.num, .string x.key, .int .i64 x.val] 144)).drew).heap.size = w.heap.size + 1 := World.size_alloc _ _
        omega
    · exact hc1.setCell (fun _ => .inl rfl) _

end Go.Proofs.YtdoedjmdcmgddaaGreat
