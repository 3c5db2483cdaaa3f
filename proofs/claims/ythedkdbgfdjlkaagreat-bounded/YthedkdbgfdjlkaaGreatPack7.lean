import Derived.Deep.CutRange
import Derived.Laws.Strings
import Derived.Test.YthedkdbgfdjlkaaGreatPack1
import Derived.Test.YthedkdbgfdjlkaaGreatPack2
import Derived.Test.YthedkdbgfdjlkaaGreatPack3
import Derived.Test.YthedkdbgfdjlkaaGreatPack4
import Derived.Test.YthedkdbgfdjlkaaGreatPack5
import Derived.Test.YthedkdbgfdjlkaaGreatPack6
/- The program's calls are the document's, whatever epochs there are. -/
namespace Go.Proofs.YthedkdbgfdjlkaaGreat
set_option linter.unusedVariables false
set_option linter.unusedSimpArgs false
open Go.RowKit Go.Lib Go.Conc.Locks

theorem relT_new (w : World) : Calls Tryz.prog 8 #[] w fun e w' => ∃ a F, e = .returned (.pointer (some a)) ∧ RelT (encHead St.init) w' a (some St.init) F ∧ (∀ k, F k → w.heap.size ≤ k) ∧ Chg (fun _ => False) w w' := by
  refine (New_cells w).mono ?_
  rintro e w' ⟨v, w1, rfl, r1, c1, hw⟩
  have hz := c1.size
  have cA : Chg (fun _ => False) w1 w' := by rw [hw]; exact chg_alloc _ _
  have hs : w'.heap.size = w1.heap.size + 1 := by rw [hw]; simp
  have nb : v.ownBlock ≠ some w1.heap.size := fun e => by have := (r1.lt _ e).2; omega
  refine ⟨_, fun k => k = w1.heap.size ∨ v.ownBlock = some k, rfl, ⟨w1.heap.size, rfl, .inl rfl, fun k hk => ?_, ?_, fun _ => 0, fun _ => 0, fun _ => .slice none 0 0, .slice none 0 0, v, fun _ => [], [], ?_, ?_, ?_, ?_, ?_, fun k hk => .inr hk, sound_init⟩, fun k hk => ?_, c1.trans cA (fun _ _ h => h)⟩
  · rcases hk with rfl | hk
    · omega
    · have := (r1.lt k hk).2; omega
  · rw [hw]
    exact ⟨World.cell?_alloc_at _ _ _ _ rfl, World.cell?_alloc_at _ _ _ _ rfl, World.cell?_alloc_at _ _ _ _ rfl, World.cell?_alloc_at _ _ _ _ rfl, fun j => World.frozen?_alloc_at _ _ _ _ rfl⟩
  · rw [hw]
    refine ⟨⟨fun i hi => ?_, fun i hi => ?_, fun i hi => ?_, World.cell?_alloc_at _ _ _ _ rfl⟩, fun j => World.frozen?_alloc_at _ _ _ _ rfl, fun i hi => World.ownsRow_nil _ _ _ _, World.ownsRow_nil _ _ _ _, fun i hi => by simp [Value.ownBlock], by simp [Value.ownBlock], fun i j _ _ _ g hg => by simp [Value.ownBlock] at hg, fun i _ g hg => by simp [Value.ownBlock] at hg, Nat.zero_le _⟩
    · rcases (by omega : i = 0 ∨ i = 1 ∨ i = 2 ∨ i = 3) with rfl | rfl | rfl | rfl <;> exact World.cell?_alloc_at _ _ _ _ rfl
    · rcases (by omega : i = 0 ∨ i = 1 ∨ i = 2 ∨ i = 3) with rfl | rfl | rfl | rfl <;> exact World.cell?_alloc_at _ _ _ _ rfl
    · rcases (by omega : i = 0 ∨ i = 1 ∨ i = 2 ∨ i = 3) with rfl | rfl | rfl | rfl <;> exact World.cell?_alloc_at _ _ _ _ rfl
  · exact ⟨fun i hi => by simp, by simp, ⟨List.Pairwise.nil, by simp, by simp, by simp, by simp [counts, qLens]⟩, fun i hi => by simp [counts], fun i hi x hx => by simp at hx⟩
  · refine ⟨rfl, rfl, fun i hi => ⟨Ln.init, ?_, rfl, rfl, List.Pairwise.nil, .refl _, trivial, by simp [Ln.init]⟩, fun i hi => by simp, by simp [St.names, St.init, Ln.init, distinct], by simp⟩
    rcases (by omega : i = 0 ∨ i = 1 ∨ i = 2 ∨ i = 3) with rfl | rfl | rfl | rfl <;> rfl
  · intro k hk
    rcases hk with ⟨i, _, hk⟩ | hk <;> simp [Value.ownBlock] at hk
  · rw [encHead_init]
    refine ⟨by rw [hw]; exact World.cell?_alloc_at _ _ _ _ rfl, (r1.lower (Nat.zero_le _)).chg cA (fun _ _ h => h), nb, fun k _ hr => ?_⟩
    rcases hr with ⟨i, _, hr⟩ | hr <;> simp [Value.ownBlock] at hr
  · rcases hk with rfl | hk
    · omega
    · exact (r1.lt k hk).1

/-- What is written down of an Accept. -/
def tapeAcc (T : List UInt8) (x : Rec) (o o' : Option St) (T' : List UInt8) : Prop := (T' = T ∧ o' = o) ∨ (T' = T ++ encAcc x ∧ o' ≠ o ∧ (encAcc x).length ≤ 32)

theorem acc_short {E B : Nat → Int} {Q : Nat → List Wt} {ks : List Ky} (hf : FlowFit E B Q ks) {x : Rec} (hx : x.fits) (h : (accF E B Q ks x).2.isSome = true) : (encAcc x).length ≤ 32 := by
  unfold accF at h
  by_cases hb : recErr x ≠ 0
  · rw [if_pos hb] at h; cases h
  · rw [if_neg hb] at h
    have hgood : recErr x = 0 := by simpa using hb
    by_cases he : x.epoch < E x.session.toNat
    · rw [if_pos he] at h; cases h
    · rw [if_neg he] at h
      unfold recErr at hgood
      split at hgood
      · cases hgood
      · rename_i h1
        split at hgood
        · cases hgood
        · rename_i h2
          have hk : okKey x.key = true := by
            cases e : okKey x.key
            · exact absurd (.inl e) h2
            · rfl
          obtain ⟨f1, f2, f3, f4, _⟩ := hx
          unfold inInt at f1 f2 f3 f4
          have hq0 := qLens_nonneg Q 4
          have htot := hf.led.total
          have hba := hf.ba x.session.toNat (by omega)
          have hn : x.number ≤ 16000 := by
            unfold accH at h
            by_cases hn : ¬ (0 ≤ x.number ∧ x.number < tB E B x.session.toNat x.epoch + 4)
            · rw [if_pos hn] at h; cases h
            · have : tB E B x.session.toNat x.epoch ≤ 1000 := by
                unfold tB
                split
                · omega
                · omega
              omega
          have := encRec_len (x := x) (by omega) (by omega) hn hk (by omega)
          unfold encAcc
          simp only [List.length_cons]
          omega

theorem relT_accept {T : List UInt8} {w : World} {a : Addr} {o : Option St} {F : Nat → Prop} (x : Rec) (h : RelT T w a o F) (hTl : T.length ≤ 140737488330000) (hx : x.fits) : Calls Tryz.prog 11 #[.pointer (some a), x.value'] w fun e w' =>
    ∃ F' T', e = .returned (.tuple #[.int .i64 (accept? o x).1.1, .int .i64 (accept? o x).1.2]) ∧ RelT T' w' a (accept? o x).2 F' ∧ tapeAcc T x o (accept? o x).2 T' ∧ (∀ k, F' k → F k ∨ w.heap.size ≤ k) ∧ Chg F w w' := by
  obtain ⟨b, rfl, hb, h1, h2⟩ := h
  cases o with
  | none =>
    refine (accept_closed b x w h2).mono ?_
    rintro e w' ⟨rfl, g1, g2⟩
    exact ⟨F, T, rfl, ⟨b, rfl, hb, fun k hk => Nat.lt_of_lt_of_le (h1 k hk) g2.size, g1⟩, .inl ⟨rfl, rfl⟩, fun k hk => .inl hk, g2.mono (fun k hk => by rw [hk]; exact hb)⟩
  | some s =>
    obtain ⟨h3, E, B, V, vk, vb, Q, ks, h4, h5, h6, h7, h8, h9, h10⟩ := h2
    obtain ⟨t1, t2, t3, t4, t5⟩ := accept_tie h6 h5 x hx
    have hsnd := sound_accept h10 (h6.fine h5) x
    refine (accept_open h3 h4 h5 (fun i hi => (h6.eps i hi).1) h8 hTl x hx).mono ?_
    rintro e w' ⟨rfl, g1, V', vk', vb', g2, g3, g4, g5, g6⟩
    refine ⟨fun k => F k ∨ (w.heap.size ≤ k ∧ k < w'.heap.size), _, by simp only [accept?]; rw [t1], ⟨b, rfl, .inl hb, fun k hk => ?_, g1, _, _, V', vk', vb', _, _, g2, t3, t2, fun k hk => ?_, g3, fun k hk => ?_, hsnd⟩, ?_, fun k hk => hk.imp id (fun h => h.1), g6.mono (fun k hk => ?_)⟩
    · rcases hk with hk | hk
      · exact Nat.lt_of_lt_of_le (h1 k hk) g6.size
      · exact hk.2
    · have hlt : k < w'.heap.size := by
        rcases hk with ⟨i, hi, hk⟩ | hk
        · exact ((g2.rows i hi).lt k hk).2
        · exact (g2.keys.lt k hk).2
      rcases g4 k hk with h | h
      · exact .inl (h7 k h)
      · exact .inr ⟨h, hlt⟩
    · rcases g5 k hk with h | h
      · exact .inl (h9 k h)
      · exact .inr ⟨h, (g3.row.lt k hk).2⟩
    · cases hch : (accF E B Q ks x).2.isSome with
      | false =>
        refine .inl ⟨rfl, ?_⟩
        have hn : (accF E B Q ks x).2 = none := by simpa using hch
        simp only [accept?]
        rw [t5 hn]
      | true =>
        refine .inr ⟨rfl, ?_, acc_short h5 hx hch⟩
        simp only [accept?]
        exact fun e => t4 hch (Option.some.inj e)
    · rcases hk with rfl | hk | hk
      · exact hb
      · exact h7 k hk
      · exact h9 k hk

theorem relT_close {T : List UInt8} {w : World} {a : Addr} {o : Option St} {F : Nat → Prop} (h : RelT T w a o F) : Calls Tryz.prog 17 #[.pointer (some a)] w fun e w' =>
    e = .returned (.int .i64 (errno? o)) ∧ RelT T w' a none F ∧ Chg F w w' := by
  obtain ⟨b, rfl, hb, h1, h2⟩ := h
  cases o with
  | none =>
    refine (close_done h2).mono ?_
    rintro e w' ⟨rfl, g1, g2⟩
    exact ⟨rfl, ⟨b, rfl, hb, fun k hk => Nat.lt_of_lt_of_le (h1 k hk) g2.size, g1⟩, g2.mono (fun k hk => by rw [hk]; exact hb)⟩
  | some s =>
    obtain ⟨h3, E, B, V, vk, vb, Q, ks, h4, h5, h6, h7, h8, h9, h10⟩ := h2
    refine (close_open h3 h4.cells h8.cell).mono ?_
    rintro e w' ⟨rfl, g1, g2⟩
    exact ⟨rfl, ⟨b, rfl, hb, fun k hk => Nat.lt_of_lt_of_le (h1 k hk) g2.size, g1⟩, g2.mono (fun k hk => by rw [hk]; exact hb)⟩

theorem relT_state {T : List UInt8} {w : World} {a : Addr} {o : Option St} {F : Nat → Prop} (h : RelT T w a o F) : Calls Tryz.prog 15 #[.pointer (some a)] w fun e w' =>
    ∃ vs vk, e = .returned (.tuple #[.agg #[vs, vk], .int .i64 (errno? o)]) ∧ StateAt w' w.heap.size vs vk (state? o) ∧ RelT T w' a o F ∧ Chg F w w' := by
  obtain ⟨b, rfl, hb, h1, h2⟩ := h
  cases o with
  | none =>
    refine (state_closed b w h2).mono ?_
    rintro e w' ⟨rfl, g1, g2⟩
    exact ⟨_, _, rfl, ⟨⟨[], rfl, World.ownsRow_nil _ _ _ _, fun i l u hl => by simp [state?] at hl⟩, World.ownsRow_nil _ _ _ _⟩, ⟨b, rfl, hb, fun k hk => Nat.lt_of_lt_of_le (h1 k hk) g2.size, g1⟩, g2.mono (fun k hk => by rw [hk]; exact hb)⟩
  | some s =>
    obtain ⟨h3, E, B, V, vk, vb, Q, ks, h4, h5, h6, h7, h8, h9, h10⟩ := h2
    obtain ⟨S, _, hS⟩ := lanes_S h6
    refine (state_open h3 h4 (fun i hi => by have := h5.ql i hi; omega) h5.kl hS h8).mono ?_
    rintro e w' ⟨vs, vk', U, rfl, g1, g2, g3, _, g4, g5, g7, g6⟩
    refine ⟨vs, vk', rfl, ⟨⟨[U 0, U 1, U 2, U 3], ?_, ?_, fun i l u hl hu => ?_⟩, ?_⟩, ⟨b, rfl, hb, fun k hk => Nat.lt_of_lt_of_le (h1 k hk) g6.size, g4, E, B, V, vk, vb, Q, ks, g5, h5, h6, h7, g7, h9, h10⟩, g6.mono (fun k hk => by rw [hk]; exact hb)⟩
    · simp [state?, h6.four]
    · obtain ⟨l0, c0, p0⟩ := h6.lane 0 (by omega)
      obtain ⟨l1, c1, p1⟩ := h6.lane 1 (by omega)
      obtain ⟨l2, c2, p2⟩ := h6.lane 2 (by omega)
      obtain ⟨l3, c3, p3⟩ := h6.lane 3 (by omega)
      have h4' := h6.four
      simp only [state?]
      match hs : s.lanes, h4' with
      | [x0, x1, x2, x3], _ =>
        rw [hs] at c0 c1 c2 c3
        simp at c0 c1 c2 c3
        subst c0 c1 c2 c3
        simpa [sessCells, sessU, p0.ep, p0.ba, p1.ep, p1.ba, p2.ep, p2.ba, p3.ep, p3.ba] using g1
    · have hi : i < 4 := by
        have := (List.getElem?_eq_some_iff.1 hl).1
        simp only [state?] at this
        rw [h6.four] at this
        exact this
      have hu' : u = U i := by
        rcases (by omega : i = 0 ∨ i = 1 ∨ i = 2 ∨ i = 3) with rfl | rfl | rfl | rfl <;> simp at hu <;> exact hu.symm
      obtain ⟨l', c, p⟩ := h6.lane i hi
      have : l' = l := by simp only [state?] at hl; rw [hl] at c; exact (Option.some.inj c).symm
      subst this
      have := g2 i hi
      rw [nums_tie p.up p.perm, p.perm.length_eq] at this
      rw [hu']
      unfold ints' at this
      rw [List.map_map] at this
      exact this
    · simp only [state?]
      rw [h6.keys]; exact g3

theorem relT_fine {T : List UInt8} {w : World} {a : Addr} {s : St} {F : Nat → Prop} (h : RelT T w a (some s) F) : s.fine := by
  obtain ⟨b, _, _, _, h⟩ := h
  obtain ⟨_, E, B, V, vk, vb, Q, ks, _, h5, h6, _⟩ := h
  exact h6.fine h5

theorem relT_good {T : List UInt8} {w : World} {a : Addr} {s : St} {F : Nat → Prop} (h : RelT T w a (some s) F) : s.good := by
  obtain ⟨b, _, _, _, h⟩ := h
  obtain ⟨_, E, B, V, vk, vb, Q, ks, _, h5, h6, _⟩ := h
  refine ⟨by rw [h6.keys]; exact h5.kl, by rw [h6.keys]; exact h5.led.sorted, fun l hl => ?_⟩
  obtain ⟨i, hi, e⟩ := List.getElem_of_mem hl
  have hi4 : i < 4 := by rw [← h6.four]; exact hi
  obtain ⟨l', g1, g2⟩ := h6.lane i hi4
  have : l' = l := by rw [List.getElem?_eq_getElem hi, e] at g1; exact (Option.some.inj g1).symm
  subst this
  exact ⟨g2.up, fun y hy => by rw [g2.ba]; exact g2.win y hy⟩

theorem relT_puts {T : List UInt8} {w : World} {a : Addr} {o : Option St} {F : Nat → Prop} (h : RelT T w a o F) : Calls Tryz.prog 19 #[.pointer (some a)] w fun e w' =>
    ∃ vp, e = .returned (.tuple #[vp, .int .i64 (errno? o)]) ∧ w'.ownsRow w.heap.size 68 3 vp (puts? o).length (putCells (puts? o)) ∧ RelT T w' a o F ∧ Chg F w w' := by
  obtain ⟨b, rfl, hb, h1, h2⟩ := h
  cases o with
  | none =>
    refine (puts_closed b w h2).mono ?_
    rintro e w' ⟨rfl, g1, g2⟩
    exact ⟨_, rfl, World.ownsRow_nil _ _ _ _, ⟨b, rfl, hb, fun k hk => Nat.lt_of_lt_of_le (h1 k hk) g2.size, g1⟩, g2.mono (fun k hk => by rw [hk]; exact hb)⟩
  | some s =>
    obtain ⟨h3, E, B, V, vk, vb, Q, ks, h4, h5, h6, h7, h8, h9, h10⟩ := h2
    refine (puts_open h3 h4 h5.kl h8).mono ?_
    rintro e w' ⟨vp, rfl, g1, g2, g3, g5, g4⟩
    refine ⟨vp, rfl, ?_, ⟨b, rfl, hb, fun k hk => Nat.lt_of_lt_of_le (h1 k hk) g4.size, g2, E, B, V, vk, vb, Q, ks, g3, h5, h6, h7, g5, h9, h10⟩, g4.mono (fun k hk => by rw [hk]; exact hb)⟩
    simp only [puts?]
    rw [h6.keys]
    exact g1

/-- What is written down of an Answer. -/
def tapeAnsw (T : List UInt8) (key : ByteArray) (n : Int) (o o' : Option St) (T' : List UInt8) : Prop := (T' = T ∧ o' = o) ∨ (T' = T ++ encAns key n ∧ o' ≠ o ∧ (encAns key n).length ≤ 32)

theorem ans_ch {E B : Nat → Int} {Q : Nat → List Wt} {ks : List Ky} {s : St} (h : Ties E B Q ks s) (hf : FlowFit E B Q ks) (key : ByteArray) (n : Int) (hn : inInt n) :
    (ansCh ks key n = false → (Go.Proofs.YthedkdbgfdjlkaaGreat.answer s key n).2 = s) ∧ (ansCh ks key n = true → (Go.Proofs.YthedkdbgfdjlkaaGreat.answer s key n).2 ≠ s ∧ (encAns key n).length ≤ 32) := by
  unfold ansCh Go.Proofs.YthedkdbgfdjlkaaGreat.answer
  rw [h.keys]
  by_cases hok : okKey key = false
  · rw [if_pos hok, if_pos hok]
    exact ⟨fun _ => rfl, fun hh => by cases hh⟩
  · rw [if_neg hok, if_neg hok]
    have hok' : okKey key = true := by simpa using hok
    cases hk : findKy key ks with
    | none => exact ⟨fun _ => rfl, fun hh => by cases hh⟩
    | some k =>
      simp only
      by_cases hb : n < 0 ∨ k.count < n
      · rw [if_pos hb, if_pos hb]
        exact ⟨fun _ => rfl, fun hh => by cases hh⟩
      · rw [if_neg hb, if_neg hb]
        rcases hold_same key n hk with ⟨h1, h2⟩ | h2
        · refine ⟨fun _ => by simp only; rw [h2, ← h.keys], fun hh => ?_⟩
          simp at hh
          omega
        · refine ⟨fun hh => ?_, fun _ => ⟨fun e => ?_, ?_⟩⟩
          · simp at hh
            have h3 : holdKy key n ks = ks := by
              have : ∀ {l : List Ky} {k : Ky}, findKy key l = some k → n ≤ k.held → holdKy key n l = l := by
                intro l
                induction l with
                | nil => intro k hk; simp [findKy] at hk
                | cons y r ih =>
                  intro k hk hle
                  unfold findKy at hk
                  unfold holdKy
                  split at hk
                  · rename_i hy
                    obtain rfl : y = k := by simpa using hk
                    rw [if_pos hy, show max y.held n = y.held by omega]
                  · rename_i hy
                    rw [if_neg hy, ih hk hle]
              exact this hk hh
            rw [h3] at h2
            omega
          · have := congrArg St.keys e
            simp only at this
            rw [this, h.keys] at h2
            omega
          · have hm := findKy_in hk
            have hq0 := qLens_nonneg Q 4
            have htot := hf.led.total
            have hc := (count_le hf.led.count k hm.1).1
            have l1 := encKey_len hok'
            have l2 := encInt_len2 (z := n) (by omega)
            unfold encAns
            simp only [List.length_cons, List.length_append]
            omega

theorem relT_answer {T : List UInt8} {w : World} {a : Addr} {o : Option St} {F : Nat → Prop} (key : ByteArray) (n : Int) (h : RelT T w a o F) (hTl : T.length ≤ 140737488330000) (hkey : key.size ≤ maxLen) (hn : inInt n) : Calls Tryz.prog 21 #[.pointer (some a), .string key, .int .i64 n] w fun e w' =>
    ∃ F' T', e = .returned (.int .i64 (answer? o key n).1) ∧ RelT T' w' a (answer? o key n).2 F' ∧ tapeAnsw T key n o (answer? o key n).2 T' ∧ (∀ k, F' k → F k ∨ w.heap.size ≤ k) ∧ Chg F w w' := by
  obtain ⟨b, rfl, hb, h1, h2⟩ := h
  cases o with
  | none =>
    refine (answer_closed b key n w h2).mono ?_
    rintro e w' ⟨rfl, g1, g2⟩
    exact ⟨F, T, rfl, ⟨b, rfl, hb, fun k hk => Nat.lt_of_lt_of_le (h1 k hk) g2.size, g1⟩, .inl ⟨rfl, rfl⟩, fun k hk => .inl hk, g2.mono (fun k hk => by rw [hk]; exact hb)⟩
  | some s =>
    obtain ⟨h3, E, B, V, vk, vb, Q, ks, h4, h5, h6, h7, h8, h9, h10⟩ := h2
    obtain ⟨t1, t2, t3⟩ := ansF_fit h6 h5 key n
    obtain ⟨u1, u2⟩ := ans_ch h6 h5 key n hn
    have hq0 := qLens_nonneg Q 4
    have htot := h5.led.total
    have hsnd := sound_answer h10 key n
    refine (answer_open h3 h4 h5.led.sorted h5.kl (fun k hk => ?_) h8 hTl key n hkey hn).mono ?_
    · have h8 := h6.held k hk
      have h9 := (count_le h5.led.count k hk).1
      omega
    · rintro e w' ⟨rfl, g1, g2, ⟨vb', g4, g5⟩, g3⟩
      refine ⟨fun k => F k ∨ (w.heap.size ≤ k ∧ k < w'.heap.size), _, by simp only [answer?]; rw [t1], ⟨b, rfl, .inl hb, fun k hk => ?_, g1, E, B, V, vk, vb', Q, _, g2, t2, t3, fun k hk => .inl (h7 k hk), g4, fun k hk => ?_, hsnd⟩, ?_, fun k hk => hk.imp id (fun h => h.1), g3.mono (fun k hk => ?_)⟩
      · rcases hk with hk | hk
        · exact Nat.lt_of_lt_of_le (h1 k hk) g3.size
        · exact hk.2
      · rcases g5 k hk with h | h
        · exact .inl (h9 k h)
        · exact .inr ⟨h, (g4.row.lt k hk).2⟩
      · cases hch : ansCh ks key n with
        | false =>
          refine .inl ⟨rfl, ?_⟩
          simp only [answer?]
          rw [u1 hch]
        | true =>
          refine .inr ⟨rfl, ?_, (u2 hch).2⟩
          simp only [answer?]
          exact fun e => (u2 hch).1 (Option.some.inj e)
      · rcases hk with rfl | hk | hk
        · exact hb
        · exact h7 k (.inr hk)
        · exact h9 k hk

end Go.Proofs.YthedkdbgfdjlkaaGreat

/- Shrink; the program's calls, counted by the length of the bytes. -/
namespace Go.Proofs.YthedkdbgfdjlkaaGreat
set_option linter.unusedVariables false
set_option linter.unusedSimpArgs false
open Go.RowKit Go.Lib Go.Conc.Locks

section
variable {E B : Nat → Int} {Q : Nat → List Wt} {ks : List Ky} {s : St}

theorem keys_plain (h : Ties E B Q ks s) (hf : FlowFit E B Q ks) (hs : s.sound) : ∀ k ∈ ks, k.plain ∧ okKey k.name = true ∧ k.count ≤ 1000 ∧ k.fold ≤ 4294967295 ∧ k.held ≤ 1000 := by
  intro k hk
  have hq0 := qLens_nonneg Q 4
  have htot := hf.led.total
  have hc := (count_le hf.led.count k hk).1
  have hh := h.held k hk
  have hfo := hf.led.fold k hk
  have hn : okKey k.name = true := hs.kname k (by rw [h.keys]; exact hk)
  have hsz := okKey_size hn
  exact ⟨⟨by omega, by omega, by omega, by omega⟩, hn, by omega, by omega, by omega⟩

theorem recs_plain (h : Ties E B Q ks s) (hf : FlowFit E B Q ks) (hs : s.sound) : ∀ x ∈ s.recs, x.plain ∧ x.session ≤ 127 ∧ x.epoch ≤ 9223372036854775807 ∧ x.number ≤ 16000 ∧ okKey x.key = true ∧ x.value ≤ 4294967295 := by
  intro x hx
  obtain ⟨j, l, y, h1, h2, h3⟩ := mem_recsFrom hx
  have hj : j < 4 := by rw [← h.four]; exact (List.getElem?_eq_some_iff.1 h1).1
  obtain ⟨l', g1, g2⟩ := h.lane j hj
  have : l' = l := by rw [h1] at g1; exact (Option.some.inj g1).symm
  subst this
  have hq0 := qLens_nonneg Q 4
  have htot := hf.led.total
  have he := h.eps j hj
  have hb := hf.ba j hj
  have hw := g2.win y h2
  obtain ⟨w1, w2, w3⟩ := hs.wt l' (List.mem_of_getElem? h1) y h2
  have hsz := okKey_size w1
  have hep := g2.ep
  rw [h3]
  refine ⟨⟨?_, ?_, ?_, ?_, ?_⟩, ?_, ?_, ?_, w1, ?_⟩ <;> simp only <;> omega

theorem head_short (h : Ties E B Q ks s) (hf : FlowFit E B Q ks) (hs : s.sound) : (encHead s).length ≤ 512 := by
  have hk := keys_plain h hf hs
  have hr := recs_plain h hf hs
  have hq0 := qLens_nonneg Q 4
  have htot := hf.led.total
  have l1 : (s.lanes.flatMap encSess).length ≤ 4 * 11 := by
    have := flat_len encSess 11 (l := s.lanes) (fun l hl => by
      have hfi := (h.fine hf).lane l hl
      have a1 := encInt_len9 (z := l.epoch) (by omega)
      have a2 := encInt_len2 (z := l.base) (by omega)
      unfold encSess encInts
      simp only [List.flatMap_cons, List.flatMap_nil, List.append_nil, List.length_append]
      omega)
    rw [h.four] at this
    exact this
  have l2 : (s.keys.flatMap encKy).length ≤ 4 * 16 := by
    have h1 := flat_len encKy 16 (l := s.keys) (fun k hk' => by
      rw [h.keys] at hk'
      obtain ⟨_, b1, b2, b3, b4⟩ := hk k hk'
      have a1 := encKey_len b1
      have a2 := encInt_len2 (z := k.count) (by omega)
      have a3 := encInt_len5 (z := k.fold) (by omega)
      have a4 := encInt_len2 (z := k.held) (by omega)
      unfold encKy encInts
      simp only [List.flatMap_cons, List.flatMap_nil, List.append_nil, List.length_append]
      omega)
    have h2 : s.keys.length ≤ 4 := by rw [h.keys]; exact hf.kl
    exact Nat.le_trans h1 (Nat.mul_le_mul_right _ h2)
  have l3 : s.recs.length ≤ 12 := by
    obtain ⟨S, hS1, hS⟩ := lanes_S h
    have hr := (recsU_lanes h hS1).2
    have : (recsU E S 4).length ≤ 12 := by
      have e : ∀ i, i < 4 → (S i).length ≤ 3 := fun i hi => by rw [(hS i hi).2.length_eq.symm]; exact hf.ql i hi
      have e0 := e 0 (by omega); have e1 := e 1 (by omega); have e2 := e 2 (by omega); have e3 := e 3 (by omega)
      simp [recsU]; omega
    rw [hr] at this
    exact this
  have l4 : (s.recs.flatMap encRec).length ≤ 12 * 24 := by
    have h1 := flat_len encRec 24 (l := s.recs) (fun x hx => by
      obtain ⟨_, b1, b2, b3, b4, b5⟩ := hr x hx
      exact encRec_len b1 b2 b3 b4 b5)
    exact Nat.le_trans h1 (Nat.mul_le_mul_right _ l3)
  have l5 := encInt_len1 (z := (s.keys.length : Int)) (by rw [h.keys]; have := hf.kl; omega)
  have l6 := encInt_len1 (z := (s.recs.length : Int)) (by omega)
  have l7 : markB.length = 8 := rfl
  unfold encHead
  simp only [List.length_append]
  omega
end

def tapeShr (T : List UInt8) : Option St → List UInt8
  | none => T
  | some s => encHead s

theorem relT_shrink {T : List UInt8} {w : World} {a : Addr} {o : Option St} {F : Nat → Prop} (h : RelT T w a o F) : Calls Tryz.prog 30 #[.pointer (some a)] w fun e w' =>
    ∃ F', e = .returned (.int .i64 (errno? o)) ∧ RelT (tapeShr T o) w' a o F' ∧ (∀ k, F' k → F k ∨ w.heap.size ≤ k) ∧ Chg F w w' := by
  obtain ⟨b, rfl, hb, h1, h2⟩ := h
  cases o with
  | none =>
    refine (shrink_closed b w h2).mono ?_
    rintro e w' ⟨rfl, g1, g2⟩
    exact ⟨F, rfl, ⟨b, rfl, hb, fun k hk => Nat.lt_of_lt_of_le (h1 k hk) g2.size, g1⟩, fun k hk => .inl hk, g2.mono (fun k hk => by rw [hk]; exact hb)⟩
  | some s =>
    obtain ⟨h3, E, B, V, vk, vb, Q, ks, h4, h5, h6, h7, h8, h9, h10⟩ := h2
    obtain ⟨S, hS1, hS⟩ := lanes_S h6
    obtain ⟨e1, e2⟩ := recsU_lanes h6 hS1
    have hq0 := qLens_nonneg Q 4
    have htot := h5.led.total
    refine (shrink_open h3 h4 h8 (fun i hi => by have := h5.ql i hi; omega) h5.kl hS h6.eps (fun i hi => by have := h5.ba i hi; omega) (fun k hk => (keys_plain h6 h5 h10 k hk).1) (fun x hx => (recs_plain h6 h5 h10 x (by rw [← e2]; exact hx)).1)).mono ?_
    rintro e w' ⟨rfl, g1, g2, ⟨vb', g3, g4⟩, g5⟩
    rw [e1] at g3
    refine ⟨fun k => F k ∨ (w.heap.size ≤ k ∧ k < w'.heap.size), rfl, ⟨b, rfl, .inl hb, fun k hk => ?_, g1, E, B, V, vk, vb', Q, ks, g2, h5, h6, fun k hk => .inl (h7 k hk), g3, fun k hk => .inr ⟨g4 k hk, (g3.row.lt k hk).2⟩, h10⟩, fun k hk => hk.imp id (fun h => h.1), g5.mono (fun k hk => by rw [hk]; exact hb)⟩
    rcases hk with hk | hk
    · exact Nat.lt_of_lt_of_le (h1 k hk) g5.size
    · exact hk.2

theorem relT_short {T : List UInt8} {w : World} {a : Addr} {s : St} {F : Nat → Prop} (h : RelT T w a (some s) F) : (encHead s).length ≤ 512 := by
  obtain ⟨b, _, _, _, h⟩ := h
  obtain ⟨_, E, B, V, vk, vb, Q, ks, _, h5, h6, _, _, _, h10⟩ := h
  exact head_short h6 h5 h10

theorem init_short : (encHead St.init).length ≤ 512 := by
  have e : (encHead St.init).length = 18 := by
    simp [encHead, St.init, Ln.init, St.recs, recsFrom, encSess, encInts, encInt, markB, encNum_small]
  omega

theorem apiN : ApiN RelN := by
  refine ⟨fun ⟨T, _, h⟩ hk => relT_lt h hk, fun ⟨T, h1, h⟩ hs => ⟨T, h1, relT_stable h hs⟩, fun ⟨T, h1, h⟩ hm => ⟨T, by omega, h⟩, fun ⟨T, _, h⟩ => relT_fine h, fun w => ?_, fun x hR hn hx => ?_, fun hR => ?_, fun hR => ?_⟩
  · exact (relT_new w).mono fun e w' ⟨a, F, h1, h2, h3, h4⟩ => ⟨a, F, h1, ⟨_, init_short, h2⟩, h3, h4⟩
  · obtain ⟨T, hT, h⟩ := hR
    refine (relT_accept x h (by unfold roomy at hn; omega) hx).mono ?_
    rintro e w' ⟨F', T', h1, h2, h3, h4, h5⟩
    rcases h3 with ⟨rfl, e1⟩ | ⟨rfl, e1, e2⟩
    · exact ⟨F', _, h1, ⟨_, hT, h2⟩, h4, h5, by omega, fun _ => rfl⟩
    · exact ⟨F', _, h1, ⟨_, by rw [List.length_append]; exact Nat.add_le_add hT e2, h2⟩, h4, h5, Nat.le_refl _, fun e => absurd e e1⟩
  · obtain ⟨T, hT, h⟩ := hR
    refine (relT_state h).mono ?_
    rintro e w' ⟨vs, vk, h1, h2, h3, h4⟩
    exact ⟨vs, vk, h1, h2, ⟨T, hT, h3⟩, h4⟩
  · obtain ⟨T, hT, h⟩ := hR
    refine (relT_close h).mono ?_
    rintro e w' ⟨h1, h2, h3⟩
    exact ⟨h1, ⟨T, hT, h2⟩, h3⟩

theorem apiSN : ApiSN RelN := by
  refine ⟨fun hR => ?_, fun key n hR hm hk hn => ?_⟩
  · obtain ⟨T, hT, h⟩ := hR
    refine (relT_puts h).mono ?_
    rintro e w' ⟨vp, h1, h2, h3, h4⟩
    exact ⟨vp, h1, h2, ⟨T, hT, h3⟩, h4⟩
  · obtain ⟨T, hT, h⟩ := hR
    refine (relT_answer key n h (by unfold roomy at hm; omega) hk hn).mono ?_
    rintro e w' ⟨F', T', h1, h2, h3, h4, h5⟩
    rcases h3 with ⟨rfl, e1⟩ | ⟨rfl, e1, e2⟩
    · exact ⟨F', _, h1, ⟨_, hT, h2⟩, h4, h5, by omega, fun _ => rfl⟩
    · exact ⟨F', _, h1, ⟨_, by rw [List.length_append]; exact Nat.add_le_add hT e2, h2⟩, h4, h5, Nat.le_refl _, fun e => absurd e e1⟩

theorem apiB : ApiB RelN := by
  refine ⟨fun ⟨T, _, h⟩ => relT_good h, fun key n hR hm hk hn => ?_, fun hR => ?_⟩
  · obtain ⟨T, hT, h⟩ := hR
    refine (relT_answer key n h (by unfold roomy at hm; omega) hk hn).mono ?_
    rintro e w' ⟨F', T', h1, h2, h3, h4, h5⟩
    obtain ⟨g1, g2⟩ := answer_but _ key n
    refine ⟨F', _, _, h1, ⟨T', ?_, h2⟩, g1, g2, h4, h5⟩
    rcases h3 with ⟨rfl, _⟩ | ⟨rfl, _, e2⟩
    · omega
    · rw [List.length_append]; omega
  · obtain ⟨T, hT, h⟩ := hR
    have hs := relT_short h
    refine (relT_shrink h).mono ?_
    rintro e w' ⟨F', h1, h2, h3, h4⟩
    exact ⟨F', _, h1, ⟨_, hs, h2⟩, h3, h4⟩

end Go.Proofs.YthedkdbgfdjlkaaGreat

/- Bounded, WALKED: what it takes beside, and what it counts. -/
namespace Go.Proofs.YthedkdbgfdjlkaaGreat
set_option linter.unusedVariables false
set_option linter.unusedSimpArgs false
open Go.RowKit

variable {R : Nat → World → Addr → Option St → (Nat → Prop) → Prop}

/-- What a step may add. -/
def gain (d : Bool) (kind : Int) : Int := if d = true ∧ kind = 0 then 1 else 0

theorem gain_pos (d : Bool) (kind : Int) : 0 ≤ gain d kind ∧ gain d kind ≤ 1 := by
  unfold gain; split <;> omega

/-- What a step makes of a state: was it done? -/
structure StepOK (s : St) (kind : Int) (d : Bool) (t : St) : Prop where
  same : d = false ∨ 1 < kind → t = s
  more : t.records ≤ s.records + gain d kind

set_option maxHeartbeats 1000000 in
theorem does_any (H : ApiN R) (HB : ApiB R) {n0 : Nat} {w : World} {a : Addr} {s : St} {F : Nat → Prop} (p : Stp) (hR : R n0 w a (some s) F) (hn0 : n0 ≤ roomy) (hn1 : 512 ≤ n0) (hx : p.x.fits) (hm : inInt p.kind ∧ inInt p.n ∧ p.key.size ≤ maxLen) :
    Calls Tryz.prog 14 #[.pointer (some a), p.value'] w fun e w' => ∃ F' d t, e = .returned (.bool d) ∧ R (n0 + 32) w' a (some t) F' ∧ (∀ k, F' k → F k ∨ w.heap.size ≤ k) ∧ Chg F w w' ∧ StepOK s p.kind d t := by
  by_cases h0 : p.kind = 0
  · refine (does_accept H p h0 hR hn0 hx).mono ?_
    rintro e w' ⟨F', rfl, h1, h2, h3⟩
    refine ⟨F', _, _, rfl, h1, h2, h3, fun h => ?_, ?_⟩
    · rcases h with h | h
      · refine accept_err fun e => ?_
        simp only [accept?] at h
        rw [e] at h
        cases h
      · omega
    · have := accept_records s p.x
      by_cases e : (accept s p.x).1.2 = 0
      · have hg : gain ((accept? (some s) p.x).1.2 == 0) p.kind = 1 := by
          unfold gain; rw [if_pos]; exact ⟨by simp only [accept?]; simpa using e, h0⟩
        rw [hg]
        exact this
      · have hg := (gain_pos ((accept s p.x).1.2 == 0) p.kind).1
        have e2 : (accept s p.x).2 = s := accept_err e
        simp only [accept?]
        rw [e2]
        omega
  · obtain ⟨kind, ⟨se, ep, n, k, v⟩, key, m⟩ := p
    simp only at h0 hx hm
    simp only [Stp.value']
    have c0 : Chg F w (w.alloc (.cells #[.int .i64 kind, .int .i64 se, .int .i64 ep, .int .i64 n, .string k, .int .i64 v, .string key, .int .i64 m] 44)) := (Chg.refl F w).alloc _
    have hz : w.heap.size ≤ (w.alloc (.cells #[.int .i64 kind, .int .i64 se, .int .i64 ep, .int .i64 n, .string k, .int .i64 v, .string key, .int .i64 m] 44)).heap.size := c0.size
    have h0' : (kind == 0) = false := by simpa using h0
    by_cases h1 : kind = 1
    · have h1' : (kind == 1) = true := by simpa using h1
      have han := HB.answer key m (H.alloc hR (.cells #[.int .i64 kind, .int .i64 se, .int .i64 ep, .int .i64 n, .string k, .int .i64 v, .string key, .int .i64 m] 44)) hn0 hm.2.2 hm.2.1
      have H1 : Hid (kind = 1) := h1
      clear h1 h0
      go_enter Tryz.func14, Tryz.ntmps14
      go_wp2_with fail
      refine han.mono ?_
      rintro _ w1 ⟨F', er, t, rfl, hR1, hb, hs, hF1, hc1⟩
      clear han
      go_wp2
      go_ret
      refine ⟨F', _, t, rfl, hR1, fun k hk => (hF1 k hk).imp id (fun h => by omega), c0.trans hc1 (fun _ _ h => h), fun h => ?_, by rw [hb.records]; have := (gain_pos (er == 0) kind).1; omega⟩
      rcases h with h | h
      · exact hs (by simpa using h)
      · have := H1.out; omega
    · have h1' : (kind == 1) = false := by simpa using h1
      by_cases h2 : kind = 2
      · have h2' : (kind == 2) = true := by simpa using h2
        have hsh := HB.shrink (H.alloc hR (.cells #[.int .i64 kind, .int .i64 se, .int .i64 ep, .int .i64 n, .string k, .int .i64 v, .string key, .int .i64 m] 44))
        clear h2 h1 h0
        go_enter Tryz.func14, Tryz.ntmps14
        go_wp2_with fail
        refine hsh.mono ?_
        rintro _ w1 ⟨F', er, rfl, hR1, hF1, hc1⟩
        clear hsh
        go_wp2
        go_ret
        exact ⟨F', _, s, rfl, H.mono hR1 (by omega), fun k hk => (hF1 k hk).imp id (fun h => by omega), c0.trans hc1 (fun _ _ h => h), fun _ => rfl, by have := fun d => (gain_pos d kind).1; first | (have := this true; omega) | (have := this false; omega) | exact Int.le_add_of_nonneg_right (this _)⟩
      · have h2' : (kind == 2) = false := by simpa using h2
        clear h2 h1 h0
        go_enter Tryz.func14, Tryz.ntmps14
        go_wp2
        go_ret
        exact ⟨F, _, s, rfl, H.mono (H.alloc hR _) (by omega), fun k hk => .inl hk, c0, fun _ => rfl, by have := fun d => (gain_pos d kind).1; first | (have := this true; omega) | (have := this false; omega) | exact Int.le_add_of_nonneg_right (this _)⟩

end Go.Proofs.YthedkdbgfdjlkaaGreat

/- Bounded, WALKED. -/
namespace Go.Proofs.YthedkdbgfdjlkaaGreat
set_option linter.unusedVariables false
set_option linter.unusedSimpArgs false
open Go.RowKit

variable {R : Nat → World → Addr → Option St → (Nat → Prop) → Prop}

theorem waits_upto : ∀ (ls : List Ln) (j : Nat), 0 ≤ waits (ls.take j) ∧ waits (ls.take j) ≤ waits ls
  | [], j => by simp [waits]
  | l :: r, 0 => by
    have := (waits_ge (ls := r)).1
    simp [waits]; omega
  | l :: r, j + 1 => by
    have := waits_upto r j
    simp [waits]; omega

theorem waits_next : ∀ (ls : List Ln) (j : Nat) (x : Ln), ls[j]? = some x → waits (ls.take (j + 1)) = waits (ls.take j) + x.ws.length
  | [], j, x, h => by simp at h
  | k :: r, 0, x, h => by simp at h; subst h; simp [waits]
  | k :: r, j + 1, x, h => by
    have := waits_next r j x (by simpa using h)
    simp [waits] at this ⊢; omega

set_option maxRecDepth 100000 in
set_option maxHeartbeats 8000000 in
theorem bounded_walk (H : ApiN R) (H0 : ∀ w, Calls Tryz.prog 7 #[] w fun e w' => e = .returned (.bool true) ∧ Chg (fun _ => False) w w') (HB : ApiB R) (w : World) (v : Value) (L : List Stp) (hS : ScriptAt w v L) :
    Calls Tryz.prog 5 #[v] w fun e w' => e = .returned (.bool true) ∧ Chg (fun _ => False) w w' := by
  obtain ⟨pv, cv, rfl⟩ := hS.val
  have hlen := hS.len
  have hnot : ∀ (x : Bool) (w : World), (Op.unary .not (.bool x)).run Tryz.prog w = .ok (.bool (!x)) w := fun _ _ => rfl
  go_enter Tryz.func5, Tryz.ntmps5
  go_wp2_with fail
  refine (H0 w).mono ?_
  rintro _ w1 ⟨rfl, c1⟩
  go_wp2_with fail
  refine (H.new w1).mono ?_
  rintro _ w2 ⟨a, F2, rfl, hR2, hF2, c2⟩
  have c02 : Chg (fun _ => False) w w2 := c1.trans c2 (fun _ _ h => h)
  have hF02 : ∀ k, F2 k → w.heap.size ≤ k := fun k hk => Nat.le_trans c1.size (hF2 k hk)
  have hlt2 : ∀ k, F2 k → k < w2.heap.size := fun k hk => H.lt hR2 hk
  have hf2 := H.fine hR2
  clear c1 c2 hF2
  go_wp2_with fail
  refine (H.state hR2).mono ?_
  rintro _ w3 ⟨vs, vk, rfl, hs3, hR3, c3⟩
  simp only [errno?, state?] at hs3 ⊢
  obtain ⟨us, hu1, hu2, hu3⟩ := hs3.sess
  obtain ⟨ps, cs, rfl⟩ := row_any hu2
  obtain ⟨pk, ck, rfl⟩ := row_any hs3.keys
  have c03 : Chg (fun _ => False) w w3 := c02.step c3 hF02
  have hz3 := c3.size
  have hww := c03.size
  clear hu1 hu2 hu3
  obtain ⟨W3, hW3⟩ : ∃ W3, W3 = w3.alloc (Obj.cells #[.slice ps St.init.lanes.length cs, .slice pk St.init.keys.length ck] 49) := ⟨_, rfl⟩
  have c33 : Chg (fun _ => False) w3 W3 := by rw [hW3]; exact (Chg.refl _ w3).alloc _
  have b0 : W3.cell? ⟨w3.heap.size, 0, none⟩ = some (.slice ps St.init.lanes.length cs) := by rw [hW3]; exact World.cell?_alloc_at _ _ _ _ rfl
  have b1 : W3.cell? ⟨w3.heap.size, 1, none⟩ = some (.slice pk St.init.keys.length ck) := by rw [hW3]; exact World.cell?_alloc_at _ _ _ _ rfl
  have bf : ∀ j, W3.frozen? ⟨w3.heap.size, j, none⟩ = false := fun j => by rw [hW3]; exact World.frozen?_alloc_at _ _ _ _ rfl
  have hz33 : W3.heap.size = w3.heap.size + 1 := by rw [hW3]; simp
  have hR33 := H.keep hR3 c33
  have hs33 := hs3.kept c33 (fun _ h => h.elim)
  obtain ⟨bs, hbs⟩ : ∃ bs, bs = w3.heap.size := ⟨_, rfl⟩
  have HW3 : Hid (W3 = w3.alloc (Obj.cells #[.slice ps St.init.lanes.length cs, .slice pk St.init.keys.length ck] 49)) := hW3
  clear hW3
  go_wp2_with fail
  go_loopw [7, 8, 9, 10, 11, 12, 13, 14, 15, 16, 17] (fun sn si _ _ _ _ _ _ _ _ _ wr => ∃ (k : Nat) (sent : Int) (s : St) (F : Nat → Prop) (vs vk : Value) (lo : Nat), si = .int .i64 k ∧ k ≤ L.length ∧ sn = .int .i64 sent ∧ 0 ≤ sent ∧ sent ≤ k ∧ s.records ≤ sent ∧ R (512 + 32 * k) wr a (some s) F ∧ (∀ k, F k → w.heap.size ≤ k) ∧ (∀ k, F k → k < lo) ∧ ¬ F w3.heap.size ∧
    Chg (fun _ => False) w wr ∧ wr.cell? ⟨w3.heap.size, 0, none⟩ = some vs ∧ wr.cell? ⟨w3.heap.size, 1, none⟩ = some vk ∧ (∀ j, wr.frozen? ⟨w3.heap.size, j, none⟩ = false) ∧ StateAt wr lo vs vk s) (fun _ si _ _ _ _ _ _ _ _ _ _ => L.length - (intOf si).toNat)
  case atStart =>
    rw [← HW3.out]
    exact ⟨0, 0, _, F2, _, _, w2.heap.size, rfl, by omega, rfl, by omega, by omega, by decide, hR33, hF02, hlt2, fun h => by have := hlt2 _ h; omega, c03.trans c33 (fun _ _ h => h), b0, b1, bf, hs33⟩
  case round =>
    obtain ⟨k, sent, s, F, vs, vk, lo, rfl, hk, rfl, hs0, hsk, hrec, hR, hFw, hFlo, hFb, hc, v0, v1, vf, hst⟩ := hrel
    clear hR2 hR3 hR33 hs3 hs33 c3 c33 c02 c03 hF02 hlt2 b0 b1 bf hf2 hz3 hz33 HW3 hbs
    by_cases hkl : k < L.length
    · obtain ⟨x, hx⟩ : ∃ x, L[k]? = some x := ⟨_, List.getElem?_eq_getElem hkl⟩
      obtain ⟨sb, so, cap, hv, y0, y1, y2, y3, y4, y5, y6, y7⟩ := hS.cells k x hx
      simp only [Value.slice.injEq] at hv
      obtain ⟨rfl, _, rfl⟩ := hv
      have yw0 := y0
      replace y0 := hc.cellAt y0 id
      replace y1 := hc.cellAt y1 id
      replace y2 := hc.cellAt y2 id
      replace y3 := hc.cellAt y3 id
      replace y4 := hc.cellAt y4 id
      replace y5 := hc.cellAt y5 id
      replace y6 := hc.cellAt y6 id
      replace y7 := hc.cellAt y7 id
      have hkl' : (k : Int) < (L.length : Int) := by omega
      have hxm := List.mem_of_getElem? hx
      have hdo := does_any H HB x hR (by unfold roomy; omega) (by omega) (hS.fits x hxm) (hS.more x hxm)
      unfold Stp.value' at hdo
      go_wp2_with fail
      refine hdo.mono ?_
      rintro _ w4 ⟨F4, d, t, rfl, hR4, hF4, c4, hok⟩
      clear hdo y0 y1 y2 y3 y4 y5 y6 y7
      have hft := H.fine hR4
      have hgt := HB.good hR4
      have hlt4 : ∀ k, F4 k → k < w4.heap.size := fun k hk => H.lt hR4 hk
      have hz4 := c4.size
      have hF4w := hc.young hFw hF4
      have cw4 : Chg (fun _ => False) w w4 := hc.step c4 hFw
      go_wp2_with fail
      refine (H.state hR4).mono ?_
      rintro _ w5 ⟨vs5, vk5, rfl, hs5, hR5, c5⟩
      simp only [errno?, state?] at hs5 ⊢
      have hz5 := c5.size
      have cw5 : Chg (fun _ => False) w w5 := cw4.step c5 hF4w
      have cr5 : Chg F wr w5 := c4.chain hF4 c5
      have hbw : w3.heap.size < wr.heap.size := World.block_lt_of_cell? _ _ v0
      have hF4b : ¬ F4 w3.heap.size := fun h => (hF4 _ h).elim hFb (fun h => by omega)
      obtain ⟨us5, hu5, r5, q5⟩ := hs5.sess
      rw [hft.four] at r5 hu5
      obtain ⟨g5, cap5, rfl, hg5, hcap5, hcell5⟩ := row_pos r5 (by omega)
      have hk5 := hs5.keys
      obtain ⟨pk5, ck5, rfl⟩ := row_any hk5
      obtain ⟨W6, hW6⟩ : ∃ W6, W6 = w5.alloc (Obj.cells #[.slice (some ⟨g5, 0, none⟩) 4 cap5, .slice pk5 t.keys.length ck5] 49) := ⟨_, rfl⟩
      have c56 : Chg (fun _ => False) w5 W6 := by rw [hW6]; exact (Chg.refl _ w5).alloc _
      have t0 : W6.cell? ⟨w5.heap.size, 0, none⟩ = some (.slice (some ⟨g5, 0, none⟩) 4 cap5) := by rw [hW6]; exact World.cell?_alloc_at _ _ _ _ rfl
      have t1 : W6.cell? ⟨w5.heap.size, 1, none⟩ = some (.slice pk5 t.keys.length ck5) := by rw [hW6]; exact World.cell?_alloc_at _ _ _ _ rfl
      have hs6 := hs5.kept c56 (fun _ h => h.elim)
      have hst6 := hst.kept (cr5.trans c56 (fun _ _ h => h.elim)) (fun k hk => .inl (by have := hFlo k hk; omega))
      have s0 := c56.cellAt (cr5.cellAt v0 hFb) id
      have s1 := c56.cellAt (cr5.cellAt v1 hFb) id
      have sf : ∀ j, W6.frozen? ⟨w3.heap.size, j, none⟩ = false := fun j => (World.frozen?_of_block (w := wr) ((cr5.trans c56 (fun _ _ h => h.elim)).block w3.heap.size hbw hFb)).trans (vf j)
      have hR6 := H.keep hR5 c56
      have cw6 : Chg (fun _ => False) w W6 := cw5.trans c56 (fun _ _ h => h)
      have hfew : ¬ (4 : Int) < (t.keys.length : Int) := by have := hgt.few; omega
      have yk := cw6.cellAt yw0 id
      have HW6 : Hid (W6 = w5.alloc (Obj.cells #[.slice (some ⟨g5, 0, none⟩) 4 cap5, .slice pk5 t.keys.length ck5] 49)) := hW6
      have hsm := hft.small
      clear hst hs5 hR hR4 hR5 v0 v1 vf
      go_upto_region 16 with fail
      rw [← hW6]
      clear hW6
      go_cut [73] from 64 to 73 (fun s73 wc => s73 = .bool (!d || decide (1 < x.kind)) ∧ wc = W6)
      case first =>
        cases d with
        | false =>
          go_wp2_with fail
          go_meet
          case rel => exact ⟨rfl, rfl⟩
        | true =>
          by_cases hb : 1 < x.kind
          · have hb' : decide (1 < x.kind) = true := by simpa using hb
            go_wp2_with fail
            go_meet
            case rel => exact ⟨by simp; omega, rfl⟩
          · have hb' : decide (1 < x.kind) = false := by simpa using hb
            go_wp2_with fail
            go_meet
            case rel => exact ⟨by simp; omega, rfl⟩
      case rest =>
        obtain ⟨rfl, hwc⟩ := hcut
        rw [hwc]
        clear hwc wc
        obtain ⟨Bq, hBq⟩ : ∃ Bq, Bq = (!d || decide (1 < x.kind)) := ⟨_, rfl⟩
        rw [← hBq]
        have HBQ : Hid (Bq = (!d || decide (1 < x.kind))) := hBq
        clear hBq
        go_upto_if 73 with fail
        go_cut [12] from 73 to 78 (fun _ wc => Chg (fun _ => False) W6 wc)
        case first =>
          cases Bq with
          | false =>
            go_wp2_with fail
            go_meet
            case rel => exact Chg.refl _ _
          | true =>
            have hts : t = s := hok.same (by
              have := HBQ.out
              cases d with
              | false => exact .inl rfl
              | true => right; simpa using this)
            have hst6t : StateAt W6 lo vs vk t := by rw [hts]; exact hst6
            have hss := sameState_eq hst6t hs6 hsm.2.2.1 hsm.2.2.2.1 hsm.2.2.2.2
            obtain ⟨_, _, rr, _⟩ := hst6t.sess
            obtain ⟨pa1, ca1, rfl⟩ := row_any rr
            obtain ⟨pa2, ca2, rfl⟩ := row_any hst6t.keys
            clear hts rr hst6t hst6
            go_wp2_with fail
            refine hss.mono ?_
            rintro _ w7 ⟨rfl, c67⟩
            clear hss s0 s1 t0 t1
            go_wp2_with fail
            go_meet
            case rel => exact c67
        case rest =>
          obtain ⟨w7, rfl⟩ : ∃ w7, w7 = wc := ⟨_, rfl⟩
          have c67 := hcut
          clear hcut HBQ
          go_upto_region 20 with fail
          go_cut [87] from 79 to 87 (fun s87 w8 => s87 = .bool (d && (x.kind == 0)) ∧ w8 = w7)
          case first =>
            have yk7 := c67.cellAt yk id
            cases d with
            | false =>
              go_wp2_with fail
              go_meet
              case rel => exact ⟨rfl, rfl⟩
            | true =>
              by_cases hb : x.kind = 0
              · have hb' : (x.kind == 0) = true := by simpa using hb
                have HB0 : Hid (x.kind = 0) := hb
                clear hb
                go_wp2_with fail
                go_meet
                case rel => exact ⟨by simp [HB0.out], rfl⟩
              · have hb' : (x.kind == 0) = false := by simpa using hb
                go_wp2_with fail
                go_meet
                case rel => exact ⟨by simp [hb'], rfl⟩
          case rest =>
            obtain ⟨rfl, hwc⟩ := hcut
            rw [hwc]
            clear hwc wc
            obtain ⟨Bk, hBk⟩ : ∃ Bk, Bk = (d && (x.kind == 0)) := ⟨_, rfl⟩
            rw [← hBk]
            have hgain : gain d x.kind = if Bk = true then 1 else 0 := by rw [hBk]; unfold gain; simp
            have HG : Hid (gain d x.kind = if Bk = true then 1 else 0) := hgain
            clear hBk hgain
            go_upto_if 87 with fail
            go_cut [7] from 87 to 89 (fun s7 w8 => s7 = .int .i64 (sent + gain d x.kind) ∧ w8 = w7)
            case first =>
              cases Bk with
              | false =>
                go_wp2_with fail
                go_meet
                case rel => exact ⟨by rw [HG.out]; simp, rfl⟩
              | true =>
                go_wp2_with fail
                go_meet
                case rel => exact ⟨by rw [HG.out]; simp, rfl⟩
            case rest =>
              obtain ⟨rfl, hwc⟩ := hcut
              rw [hwc]
              clear hwc wc
              have hgp := gain_pos d x.kind
              have hmore := hok.more
              obtain ⟨sent', hse⟩ : ∃ sent', sent' = sent + gain d x.kind := ⟨_, rfl⟩
              rw [← hse]
              have hsent' : t.records ≤ sent' ∧ 0 ≤ sent' ∧ sent' ≤ k + 1 := by omega
              clear hse hgp hmore HG hrec hs0 hsk hok hst6 yk HW6
              have u0 := c67.cellAt t0 id
              have u1 := c67.cellAt t1 id
              have cw7 : Chg (fun _ => False) w w7 := cw6.trans c67 (fun _ _ h => h)
              have hk7 := c67.row' (c56.row' hk5 (fun _ _ h => h)) (fun _ _ h => h)
              have hup := counts_upto (ks := t.keys) (fun k hk => (hft.key k hk).1)
              have hs6' := hs6
              clear t0 t1 hcell5 q5 r5 hk5 hs6 hF4 c4 c5 cr5 cw4 cw5 cw6 c56
              go_wp2_with fail
              go_loopw [13, 14] (fun sn sj wq => ∃ (j : Nat) (n : Int), sj = .int .i64 j ∧ j ≤ t.keys.length ∧ sn = .int .i64 n ∧ Hid (n = counts (t.keys.take j)) ∧ Chg (fun _ => False) w7 wq) (fun _ sj _ => t.keys.length - (intOf sj).toNat)
              case atStart => exact ⟨0, 0, rfl, by omega, rfl, (show _ = _ by simp [counts]), Chg.refl _ _⟩
              case round =>
                obtain ⟨j, n, rfl, hj, rfl, HN, hcj⟩ := hrel
                have e1 := hcj.cellAt u1 id
                by_cases hjl : j < t.keys.length
                · obtain ⟨q, hq⟩ : ∃ q, t.keys[j]? = some q := ⟨_, List.getElem?_eq_getElem hjl⟩
                  have cx := keyCells_at t.keys j q hq
                  obtain ⟨gk, capk, hvk, _, _, hck⟩ := row_pos hk7 (by omega)
                  simp only [Value.slice.injEq] at hvk
                  obtain ⟨rfl, _, rfl⟩ := hvk
                  have m0 := hcj.cellAt (hck _ _ cx.1) id
                  have m1 := hcj.cellAt (hck _ _ cx.2.1) id
                  have m3 := hcj.cellAt (hck _ _ cx.2.2.2) id
                  have hqk := hft.key q (List.mem_of_getElem? hq)
                  have hjl' : (j : Int) < (t.keys.length : Int) := by omega
                  have hn := counts_next t.keys j q hq
                  have hn1 := hup j
                  have hn2 := hup (j + 1)
                  have hnx : 0 ≤ n ∧ n ≤ 1000 ∧ 0 ≤ n + q.count ∧ n + q.count ≤ 1000 := by rw [HN.out]; omega
                  have HNX : Hid (counts (t.keys.take (j + 1)) = counts (t.keys.take j) + q.count) := hn
                  have hd1 : decide (q.held < 0) = false := by simpa using hqk.2.1
                  have hd2 : decide (q.count < q.held) = false := by simpa using hqk.2.2
                  have hd3 : decide (q.count < 1) = false := by simpa using hqk.1
                  rcases Nat.eq_zero_or_pos j with h0 | h0
                  · subst h0
                    clear hck cx hn hn1 hn2
                    go_wp2_with fail
                    go_quiet (fail)
                    go_wp2_with fail
                    go_roundw
                    case rel => exact ⟨1, n + q.count, rfl, by omega, by go_num, (show _ = _ by rw [HNX.out, HN.out]), hcj.trans (((Quiet.refl _).drewN _).chg _) (fun _ _ h => h)⟩
                    case measure => simp [intOf]; omega
                  · obtain ⟨j, rfl⟩ : ∃ j', j = j' + 1 := ⟨j - 1, by omega⟩
                    obtain ⟨pq, hpq⟩ : ∃ pq, t.keys[j]? = some pq := ⟨_, List.getElem?_eq_getElem (by omega)⟩
                    have cp := keyCells_at t.keys j pq hpq
                    have p0 := hcj.cellAt (hck _ _ cp.1) id
                    have hls : less pq.name q.name = true := by
                      have := List.pairwise_iff_getElem.1 hgt.sorted j (j + 1) (by omega) hjl (by omega)
                      rw [List.getElem?_eq_getElem (by omega)] at hpq hq
                      rw [← Option.some.inj hpq, ← Option.some.inj hq]
                      exact this
                    have hbl : Op.bytesLess pq.name.toList q.name.toList = true := by rw [ByteArray.toList_eq, ByteArray.toList_eq]; exact hls
                    have hd4 : decide ((0 : Int) < (j : Int) + 1) = true := decide_eq_true (by omega)
                    clear hck cx cp hn hn1 hn2 hls
                    go_wp2_with fail
                    go_quiet (fail)
                    go_wp2_with fail
                    go_roundw
                    case rel => exact ⟨j + 2, n + q.count, by go_num, by omega, by go_num, (show _ = _ by rw [HNX.out, HN.out]), hcj.trans (((Quiet.refl _).drewN _).chg _) (fun _ _ h => h)⟩
                    case measure => simp [intOf]; omega
                · have hjl' : ¬ (j : Int) < (t.keys.length : Int) := by omega
                  obtain rfl : j = t.keys.length := by omega
                  have HN' : Hid (n = counts t.keys) := by show _ = _; rw [HN.out, List.take_length]
                  have hn0 : 0 ≤ n ∧ n ≤ 1000 := by rw [HN'.out]; omega
                  clear HN hup
                  have hR7 := H.keep hR6 (c67.trans hcj (fun _ _ h => h))
                  have cw8 : Chg (fun _ => False) w wr := cw7.trans hcj (fun _ _ h => h)
                  obtain ⟨w8, rfl⟩ : ∃ w8, w8 = wr := ⟨_, rfl⟩
                  have x0 := hcj.cellAt u0 id
                  have x1 := hcj.cellAt u1 id
                  have sv0 := hcj.cellAt (c67.cellAt s0 id) id
                  have sv1 := hcj.cellAt (c67.cellAt s1 id) id
                  have svf : ∀ j, w8.frozen? ⟨w3.heap.size, j, none⟩ = false := fun j => (World.frozen?_of_block (w := W6) ((c67.trans hcj (fun _ _ h => h)).block w3.heap.size (World.block_lt_of_cell? _ _ s0) id)).trans (sf j)
                  have hs8 := hs6'.kept (c67.trans hcj (fun _ _ h => h)) (fun _ h => h.elim)
                  obtain ⟨us8, hu8, r8, q8⟩ := hs8.sess
                  rw [hft.four] at r8 hu8
                  obtain ⟨g8, cap8, hv8, _, _, hcell8⟩ := row_pos r8 (by omega)
                  simp only [Value.slice.injEq, Option.some.injEq, Addr.mk.injEq] at hv8
                  obtain ⟨⟨rfl, _, _⟩, _, rfl⟩ := hv8
                  clear u0 u1 s0 s1 sf hs6' c67 hcj hR6 cw7 hk7
                  go_wp2_with fail
                  go_loopw [13, 15, 16, 17] (fun sn sj _ _ wq => ∃ (j : Nat) (m : Int), sj = .int .i64 j ∧ j ≤ 4 ∧ sn = .int .i64 m ∧ Hid (m = n + waits (t.lanes.take j)) ∧ Chg (fun _ => False) w8 wq) (fun _ sj _ _ _ => 4 - (intOf sj).toNat)
                  case atStart => exact ⟨0, n, rfl, by omega, rfl, (show _ = _ by simp [waits]), Chg.refl _ _⟩
                  case round =>
                    obtain ⟨j, m, rfl, hj, rfl, HM, hcj⟩ := hrel
                    have e0 := hcj.cellAt x0 id
                    by_cases hjl : j < 4
                    · obtain ⟨l, hl⟩ : ∃ l, t.lanes[j]? = some l := ⟨_, List.getElem?_eq_getElem (by rw [hft.four]; exact hjl)⟩
                      obtain ⟨u, hu⟩ : ∃ u, us8[j]? = some u := ⟨_, List.getElem?_eq_getElem (by rw [hu8]; exact hjl)⟩
                      have cx := sessCells_at _ _ _ _ _ hl hu
                      have ru := hcj.row' (q8 j l u hl hu) (fun _ _ h => h)
                      obtain ⟨pu, cu, rfl⟩ := row_any ru
                      have m0 := hcj.cellAt (hcell8 _ _ cx.1) id
                      have m1 := hcj.cellAt (hcell8 _ _ cx.2.1) id
                      have m2 := hcj.cellAt (hcell8 _ _ cx.2.2) id
                      have hlm := List.mem_of_getElem? hl
                      have hlf := hft.lane l hlm
                      have hlw := hgt.wait l hlm
                      have hll := hsm.2.2.2.2 l hlm
                      have hnx := waits_next _ _ _ hl
                      have hn1 := waits_upto t.lanes j
                      have hn2 := waits_upto t.lanes (j + 1)
                      have htot : counts t.keys + waits t.lanes ≤ 1000 := hft.total
                      have hmx : 0 ≤ m ∧ m ≤ 3000 := by rw [HM.out]; omega
                      have HNX : Hid (waits (t.lanes.take (j + 1)) = waits (t.lanes.take j) + l.ws.length) := hnx
                      have hjl' : (j : Int) < 4 := by omega
                      obtain ⟨W9, hW9⟩ : ∃ W9, W9 = wr.alloc (Obj.cells #[.int .i64 l.epoch, .int .i64 l.base, .slice pu l.ws.length cu] 53) := ⟨_, rfl⟩
                      have c9 : Chg (fun _ => False) wr W9 := by rw [hW9]; exact (Chg.refl _ wr).alloc _
                      have z1 : W9.cell? ⟨wr.heap.size, 1, none⟩ = some (.int .i64 l.base) := by rw [hW9]; exact World.cell?_alloc_at _ _ _ _ rfl
                      have z2 : W9.cell? ⟨wr.heap.size, 2, none⟩ = some (.slice pu l.ws.length cu) := by rw [hW9]; exact World.cell?_alloc_at _ _ _ _ rfl
                      have ru9 := c9.row' ru (fun _ _ h => h)
                      clear cx hnx hn1 hn2 htot ru
                      go_wp2_with fail
                      rw [← hW9]
                      have hM' : m + (l.ws.length : Int) ≤ 4000 ∧ 0 ≤ m + (l.ws.length : Int) := by omega
                      have HM' : Hid (m + (l.ws.length : Int) = n + waits (t.lanes.take (j + 1))) := by show _ = _; rw [HM.out, HNX.out]; omega
                      obtain ⟨mm, hmm⟩ : ∃ mm, mm = m + (l.ws.length : Int) := ⟨_, rfl⟩
                      rw [← hmm] at HM' hM' ⊢
                      clear hW9 HM HNX hmm hmx m0 m1 m2 e0
                      go_loopw [17] (fun si wq => ∃ (i : Nat), si = .int .i64 i ∧ i ≤ l.ws.length ∧ Chg (fun _ => False) W9 wq) (fun si _ => l.ws.length - (intOf si).toNat)
                      case atStart => exact ⟨0, rfl, by omega, Chg.refl _ _⟩
                      case round =>
                        obtain ⟨i, rfl, hi, hci⟩ := hrel
                        have e2 := hci.cellAt z2 id
                        have e1 := hci.cellAt z1 id
                        by_cases hil : i < l.ws.length
                        · obtain ⟨y, hy⟩ : ∃ y, l.ws[i]? = some y := ⟨_, List.getElem?_eq_getElem hil⟩
                          obtain ⟨gu, capu, hvu, _, _, hcu⟩ := row_pos ru9 (by omega)
                          simp only [Value.slice.injEq] at hvu
                          obtain ⟨rfl, _, rfl⟩ := hvu
                          have y0 := hci.cellAt (hcu i (.int .i64 y.num) (by simp [Ln.nums, hy])) id
                          have hyb := hlw.2 y (List.mem_of_getElem? hy)
                          have hil' : (i : Int) < (l.ws.length : Int) := by omega
                          have hd1 : decide (y.num ≤ l.base) = false := by simpa using hyb.1
                          have hd2 : decide (4 ≤ y.num - l.base) = false := by simp; omega
                          rcases Nat.eq_zero_or_pos i with h0 | h0
                          · subst h0
                            clear hcu hy
                            go_wp2_with fail
                            go_quiet (fail)
                            go_wp2_with fail
                            go_roundw
                            case rel => exact ⟨1, rfl, by omega, hci.trans (((Quiet.refl _).drewN _).chg _) (fun _ _ h => h)⟩
                            case measure => simp [intOf]; omega
                          · obtain ⟨i, rfl⟩ : ∃ i', i = i' + 1 := ⟨i - 1, by omega⟩
                            obtain ⟨py, hpy⟩ : ∃ py, l.ws[i]? = some py := ⟨_, List.getElem?_eq_getElem (by omega)⟩
                            have y1 := hci.cellAt (hcu i (.int .i64 py.num) (by simp [Ln.nums, hpy])) id
                            have hpyb := hlw.2 py (List.mem_of_getElem? hpy)
                            have hls : py.num < y.num := by
                              have := List.pairwise_iff_getElem.1 hlw.1 i (i + 1) (by omega) hil (by omega)
                              rw [List.getElem?_eq_getElem (by omega)] at hpy hy
                              rw [← Option.some.inj hpy, ← Option.some.inj hy]
                              exact this
                            have hd3 : decide (y.num ≤ py.num) = false := by simpa using hls
                            have hd4 : decide ((0 : Int) < (i : Int) + 1) = true := decide_eq_true (by omega)
                            clear hcu hy hpy
                            go_wp2_with fail
                            go_quiet (fail)
                            go_wp2_with fail
                            go_roundw
                            case rel => exact ⟨i + 2, by go_num, by omega, hci.trans (((Quiet.refl _).drewN _).chg _) (fun _ _ h => h)⟩
                            case measure => simp [intOf]; omega
                        · have hil' : ¬ (i : Int) < (l.ws.length : Int) := by omega
                          obtain rfl : i = l.ws.length := by omega
                          go_wp2_with fail
                          go_roundw
                          case rel => exact ⟨j + 1, mm, by go_num, by omega, rfl, HM', hcj.trans (c9.trans hci (fun _ _ h => h)) (fun _ _ h => h)⟩
                          case measure => simp [intOf]; omega
                    · have hjl' : ¬ (j : Int) < 4 := by omega
                      obtain rfl : j = 4 := by omega
                      have hm : m = t.records := by rw [HM.out, HN'.out, List.take_of_length_le (by rw [hft.four]; omega)]; rfl
                      have htot := hft.total
                      have hmm : ¬ sent' < m ∧ ¬ 1000 < m ∧ 0 ≤ m := by
                        have h1 := (waits_ge (ls := t.lanes)).1
                        have h2 := hsm.1
                        unfold St.records at *
                        omega
                      clear HM hm
                      have e1 := hcj.cellAt x1 id
                      have g0 := hcj.cellAt sv0 id
                      have g1 := hcj.cellAt sv1 id
                      have gf : ∀ j, wr.frozen? ⟨w3.heap.size, j, none⟩ = false := fun j => (World.frozen?_of_block (w := w8) (hcj.block w3.heap.size (World.block_lt_of_cell? _ _ sv0) id)).trans (svf j)
                      have gf0 := gf 0
                      have gf1 := gf 1
                      have c9 : Chg (fun k => k = w3.heap.size) wr ((wr.setCell ⟨w3.heap.size, 0, none⟩ (.slice (some ⟨g5, 0, none⟩) 4 cap5)).setCell ⟨w3.heap.size, 1, none⟩ (.slice pk5 t.keys.length ck5)) := Chg.setCell (p := ⟨w3.heap.size, 1, none⟩) (Chg.setCell (p := ⟨w3.heap.size, 0, none⟩) (Chg.refl (fun k => k = w3.heap.size) wr) (fun _ => rfl) _) (fun _ => rfl) _
                      have hR9 := H.keep hR7 hcj
                      have cw9 : Chg (fun _ => False) w wr := cw8.trans hcj (fun _ _ h => h)
                      have hs9 := hs8.kept hcj (fun _ h => h.elim)
                      go_wp2_with fail
                      refine ⟨⟨k + 1, sent', t, F4, _, _, w4.heap.size, by go_num, by omega, rfl, hsent'.2.1, by omega, hsent'.1, H.stable hR9 (fun i hi => c9.block i (H.lt hR9 hi) (fun e => hF4b (by rw [← e]; exact hi))), hF4w, hlt4, hF4b, cw9.step c9 (fun i hi => by rw [hi]; exact hww), (World.cell?_setCell_other _ _ _ _ (by simp)).trans (World.cell?_setCell_same _ _ _ g0), World.cell?_setCell_same _ _ _ ((World.cell?_setCell_other _ _ _ _ (by simp)).trans g1), fun j => by simpa using gf j, hs9.kept c9 (fun i hi => .inl (by rw [hi]; omega))⟩, by simp [intOf]; omega⟩
    · have hkl' : ¬ (k : Int) < (L.length : Int) := by omega
      go_wp2_with fail
      go_ret
      exact ⟨rfl, hc⟩

end Go.Proofs.YthedkdbgfdjlkaaGreat
