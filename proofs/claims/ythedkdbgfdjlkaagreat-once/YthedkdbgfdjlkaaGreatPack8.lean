import Derived.Deep.CutRange
import Derived.Test.YthedkdbgfdjlkaaGreatPack1
import Derived.Test.YthedkdbgfdjlkaaGreatPack2
import Derived.Test.YthedkdbgfdjlkaaGreatPack3
import Derived.Test.YthedkdbgfdjlkaaGreatPack4
import Derived.Test.YthedkdbgfdjlkaaGreatPack5
import Derived.Test.YthedkdbgfdjlkaaGreatPack6
import Derived.Test.YthedkdbgfdjlkaaGreatPack7
/- The program's calls are the document's, whatever epochs there are. -/
namespace Go.Proofs.YthedkdbgfdjlkaaGreat
set_option linter.unusedVariables false
set_option linter.unusedSimpArgs false
open Go.RowKit Go.Lib Go.Conc.Locks

theorem relT_new (w : World) : Calls Tryz.prog 8 #[] w fun e w' => ∃ a F, e = .returned (.pointer (some a)) ∧ RelT (encHead St.init) w' a (some St.init) F ∧ (∀ k, F k → w.heap.size ≤ k) ∧ Chg (fun _ => False) w w' := by
  refine (New_cells w).mono ?_
  rintro e w' ⟨v, w1, rfl, r1, c1, hw⟩
  have hz := c1.size
  have cA : Chg (fun _ => False) w1 w' := by rw [hw]; exact chg_alloc _ _
  have hs : w'.heap.size = w1.heap.size + 1 := by rw [hw]; simp
  have nb : v.ownBlock ≠ some w1.heap.size := fun e => by have := (r1.lt _ e).2; omega
  refine ⟨_, fun k => k = w1.heap.size ∨ v.ownBlock = some k, rfl, ⟨w1.heap.size, rfl, .inl rfl, fun k hk => ?_, ?_, fun _ => 0, fun _ => 0, fun _ => .slice none 0 0, .slice none 0 0, v, fun _ => [], [], ?_, ?_, ?_, ?_, ?_, fun k hk => .inr hk, sound_init⟩, fun k hk => ?_, c1.trans cA (fun _ _ h => h)⟩
  · rcases hk with rfl | hk
    · omega
    · have := (r1.lt k hk).2; omega
  · rw [hw]
    exact ⟨World.cell?_alloc_at _ _ _ _ rfl, World.cell?_alloc_at _ _ _ _ rfl, World.cell?_alloc_at _ _ _ _ rfl, World.cell?_alloc_at _ _ _ _ rfl, fun j => World.frozen?_alloc_at _ _ _ _ rfl⟩
  · rw [hw]
    refine ⟨⟨fun i hi => ?_, fun i hi => ?_, fun i hi => ?_, World.cell?_alloc_at _ _ _ _ rfl⟩, fun j => World.frozen?_alloc_at _ _ _ _ rfl, fun i hi => World.ownsRow_nil _ _ _ _, World.ownsRow_nil _ _ _ _, fun i hi => by simp [Value.ownBlock], by simp [Value.ownBlock], fun i j _ _ _ g hg => by simp [Value.ownBlock] at hg, fun i _ g hg => by simp [Value.ownBlock] at hg, Nat.zero_le _⟩
    · rcases (by omega : i = 0 ∨ i = 1 ∨ i = 2 ∨ i = 3) with rfl | rfl | rfl | rfl <;> exact World.cell?_alloc_at _ _ _ _ rfl
    · rcases (by omega : i = 0 ∨ i = 1 ∨ i = 2 ∨ i = 3) with rfl | rfl | rfl | rfl <;> exact World.cell?_alloc_at _ _ _ _ rfl
    · rcases (by omega : i = 0 ∨ i = 1 ∨ i = 2 ∨ i = 3) with rfl | rfl | rfl | rfl <;> exact World.cell?_alloc_at _ _ _ _ rfl
  · exact ⟨fun i hi => by simp, by simp, ⟨List.Pairwise.nil, by simp, by simp, by simp, by simp [counts, qLens]⟩, fun i hi => by simp [counts], fun i hi x hx => by simp at hx⟩
  · refine ⟨rfl, rfl, fun i hi => ⟨Ln.init, ?_, rfl, rfl, List.Pairwise.nil, .refl _, trivial, by simp [Ln.init]⟩, fun i hi => by simp, by simp [St.names, St.init, Ln.init, distinct], by simp⟩
    rcases (by omega : i = 0 ∨ i = 1 ∨ i = 2 ∨ i = 3) with rfl | rfl | rfl | rfl <;> rfl
  · intro k hk
    rcases hk with ⟨i, _, hk⟩ | hk <;> simp [Value.ownBlock] at hk
  · rw [encHead_init]
    refine ⟨by rw [hw]; exact World.cell?_alloc_at _ _ _ _ rfl, (r1.lower (Nat.zero_le _)).chg cA (fun _ _ h => h), nb, fun k _ hr => ?_⟩
    rcases hr with ⟨i, _, hr⟩ | hr <;> simp [Value.ownBlock] at hr
  · rcases hk with rfl | hk
    · omega
    · exact (r1.lt k hk).1

/-- What is written down of an Accept. -/
def tapeAcc (T : List UInt8) (x : Rec) (o o' : Option St) (T' : List UInt8) : Prop := (T' = T ∧ o' = o) ∨ (T' = T ++ encAcc x ∧ o' ≠ o ∧ (encAcc x).length ≤ 32)

theorem acc_short {E B : Nat → Int} {Q : Nat → List Wt} {ks : List Ky} (hf : FlowFit E B Q ks) {x : Rec} (hx : x.fits) (h : (accF E B Q ks x).2.isSome = true) : (encAcc x).length ≤ 32 := by
  unfold accF at h
  by_cases hb : recErr x ≠ 0
  · rw [if_pos hb] at h; cases h
  · rw [if_neg hb] at h
    have hgood : recErr x = 0 := by simpa using hb
    by_cases he : x.epoch < E x.session.toNat
    · rw [if_pos he] at h; cases h
    · rw [if_neg he] at h
      unfold recErr at hgood
      split at hgood
      · cases hgood
      · rename_i h1
        split at hgood
        · cases hgood
        · rename_i h2
          have hk : okKey x.key = true := by
            cases e : okKey x.key
            · exact absurd (.inl e) h2
            · rfl
          obtain ⟨f1, f2, f3, f4, _⟩ := hx
          unfold inInt at f1 f2 f3 f4
          have hq0 := qLens_nonneg Q 4
          have htot := hf.led.total
          have hba := hf.ba x.session.toNat (by omega)
          have hn : x.number ≤ 16000 := by
            unfold accH at h
            by_cases hn : ¬ (0 ≤ x.number ∧ x.number < tB E B x.session.toNat x.epoch + 4)
            · rw [if_pos hn] at h; cases h
            · have : tB E B x.session.toNat x.epoch ≤ 1000 := by
                unfold tB
                split
                · omega
                · omega
              omega
          have := encRec_len (x := x) (by omega) (by omega) hn hk (by omega)
          unfold encAcc
          simp only [List.length_cons]
          omega

theorem relT_accept {T : List UInt8} {w : World} {a : Addr} {o : Option St} {F : Nat → Prop} (x : Rec) (h : RelT T w a o F) (hTl : T.length ≤ 140737488330000) (hx : x.fits) : Calls Tryz.prog 11 #[.pointer (some a), x.value'] w fun e w' =>
    ∃ F' T', e = .returned (.tuple #[.int .i64 (accept? o x).1.1, .int .i64 (accept? o x).1.2]) ∧ RelT T' w' a (accept? o x).2 F' ∧ tapeAcc T x o (accept? o x).2 T' ∧ (∀ k, F' k → F k ∨ w.heap.size ≤ k) ∧ Chg F w w' := by
  obtain ⟨b, rfl, hb, h1, h2⟩ := h
  cases o with
  | none =>
    refine (accept_closed b x w h2).mono ?_
    rintro e w' ⟨rfl, g1, g2⟩
    exact ⟨F, T, rfl, ⟨b, rfl, hb, fun k hk => Nat.lt_of_lt_of_le (h1 k hk) g2.size, g1⟩, .inl ⟨rfl, rfl⟩, fun k hk => .inl hk, g2.mono (fun k hk => by rw [hk]; exact hb)⟩
  | some s =>
    obtain ⟨h3, E, B, V, vk, vb, Q, ks, h4, h5, h6, h7, h8, h9, h10⟩ := h2
    obtain ⟨t1, t2, t3, t4, t5⟩ := accept_tie h6 h5 x hx
    have hsnd := sound_accept h10 (h6.fine h5) x
    refine (accept_open h3 h4 h5 (fun i hi => (h6.eps i hi).1) h8 hTl x hx).mono ?_
    rintro e w' ⟨rfl, g1, V', vk', vb', g2, g3, g4, g5, g6⟩
    refine ⟨fun k => F k ∨ (w.heap.size ≤ k ∧ k < w'.heap.size), _, by simp only [accept?]; rw [t1], ⟨b, rfl, .inl hb, fun k hk => ?_, g1, _, _, V', vk', vb', _, _, g2, t3, t2, fun k hk => ?_, g3, fun k hk => ?_, hsnd⟩, ?_, fun k hk => hk.imp id (fun h => h.1), g6.mono (fun k hk => ?_)⟩
    · rcases hk with hk | hk
      · exact Nat.lt_of_lt_of_le (h1 k hk) g6.size
      · exact hk.2
    · have hlt : k < w'.heap.size := by
        rcases hk with ⟨i, hi, hk⟩ | hk
        · exact ((g2.rows i hi).lt k hk).2
        · exact (g2.keys.lt k hk).2
      rcases g4 k hk with h | h
      · exact .inl (h7 k h)
      · exact .inr ⟨h, hlt⟩
    · rcases g5 k hk with h | h
      · exact .inl (h9 k h)
      · exact .inr ⟨h, (g3.row.lt k hk).2⟩
    · cases hch : (accF E B Q ks x).2.isSome with
      | false =>
        refine .inl ⟨rfl, ?_⟩
        have hn : (accF E B Q ks x).2 = none := by simpa using hch
        simp only [accept?]
        rw [t5 hn]
      | true =>
        refine .inr ⟨rfl, ?_, acc_short h5 hx hch⟩
        simp only [accept?]
        exact fun e => t4 hch (Option.some.inj e)
    · rcases hk with rfl | hk | hk
      · exact hb
      · exact h7 k hk
      · exact h9 k hk

theorem relT_close {T : List UInt8} {w : World} {a : Addr} {o : Option St} {F : Nat → Prop} (h : RelT T w a o F) : Calls Tryz.prog 17 #[.pointer (some a)] w fun e w' =>
    e = .returned (.int .i64 (errno? o)) ∧ RelT T w' a none F ∧ Chg F w w' := by
  obtain ⟨b, rfl, hb, h1, h2⟩ := h
  cases o with
  | none =>
    refine (close_done h2).mono ?_
    rintro e w' ⟨rfl, g1, g2⟩
    exact ⟨rfl, ⟨b, rfl, hb, fun k hk => Nat.lt_of_lt_of_le (h1 k hk) g2.size, g1⟩, g2.mono (fun k hk => by rw [hk]; exact hb)⟩
  | some s =>
    obtain ⟨h3, E, B, V, vk, vb, Q, ks, h4, h5, h6, h7, h8, h9, h10⟩ := h2
    refine (close_open h3 h4.cells h8.cell).mono ?_
    rintro e w' ⟨rfl, g1, g2⟩
    exact ⟨rfl, ⟨b, rfl, hb, fun k hk => Nat.lt_of_lt_of_le (h1 k hk) g2.size, g1⟩, g2.mono (fun k hk => by rw [hk]; exact hb)⟩

theorem relT_state {T : List UInt8} {w : World} {a : Addr} {o : Option St} {F : Nat → Prop} (h : RelT T w a o F) : Calls Tryz.prog 15 #[.pointer (some a)] w fun e w' =>
    ∃ vs vk, e = .returned (.tuple #[.agg #[vs, vk], .int .i64 (errno? o)]) ∧ StateAt w' w.heap.size vs vk (state? o) ∧ RelT T w' a o F ∧ Chg F w w' := by
  obtain ⟨b, rfl, hb, h1, h2⟩ := h
  cases o with
  | none =>
    refine (state_closed b w h2).mono ?_
    rintro e w' ⟨rfl, g1, g2⟩
    exact ⟨_, _, rfl, ⟨⟨[], rfl, World.ownsRow_nil _ _ _ _, fun i l u hl => by simp [state?] at hl⟩, World.ownsRow_nil _ _ _ _⟩, ⟨b, rfl, hb, fun k hk => Nat.lt_of_lt_of_le (h1 k hk) g2.size, g1⟩, g2.mono (fun k hk => by rw [hk]; exact hb)⟩
  | some s =>
    obtain ⟨h3, E, B, V, vk, vb, Q, ks, h4, h5, h6, h7, h8, h9, h10⟩ := h2
    obtain ⟨S, _, hS⟩ := lanes_S h6
    refine (state_open h3 h4 (fun i hi => by have := h5.ql i hi; omega) h5.kl hS h8).mono ?_
    rintro e w' ⟨vs, vk', U, rfl, g1, g2, g3, _, g4, g5, g7, g6⟩
    refine ⟨vs, vk', rfl, ⟨⟨[U 0, U 1, U 2, U 3], ?_, ?_, fun i l u hl hu => ?_⟩, ?_⟩, ⟨b, rfl, hb, fun k hk => Nat.lt_of_lt_of_le (h1 k hk) g6.size, g4, E, B, V, vk, vb, Q, ks, g5, h5, h6, h7, g7, h9, h10⟩, g6.mono (fun k hk => by rw [hk]; exact hb)⟩
    · simp [state?, h6.four]
    · obtain ⟨l0, c0, p0⟩ := h6.lane 0 (by omega)
      obtain ⟨l1, c1, p1⟩ := h6.lane 1 (by omega)
      obtain ⟨l2, c2, p2⟩ := h6.lane 2 (by omega)
      obtain ⟨l3, c3, p3⟩ := h6.lane 3 (by omega)
      have h4' := h6.four
      simp only [state?]
      match hs : s.lanes, h4' with
      | [x0, x1, x2, x3], _ =>
        rw [hs] at c0 c1 c2 c3
        simp at c0 c1 c2 c3
        subst c0 c1 c2 c3
        simpa [sessCells, sessU, p0.ep, p0.ba, p1.ep, p1.ba, p2.ep, p2.ba, p3.ep, p3.ba] using g1
    · have hi : i < 4 := by
        have := (List.getElem?_eq_some_iff.1 hl).1
        simp only [state?] at this
        rw [h6.four] at this
        exact this
      have hu' : u = U i := by
        rcases (by omega : i = 0 ∨ i = 1 ∨ i = 2 ∨ i = 3) with rfl | rfl | rfl | rfl <;> simp at hu <;> exact hu.symm
      obtain ⟨l', c, p⟩ := h6.lane i hi
      have : l' = l := by simp only [state?] at hl; rw [hl] at c; exact (Option.some.inj c).symm
      subst this
      have := g2 i hi
      rw [nums_tie p.up p.perm, p.perm.length_eq] at this
      rw [hu']
      unfold ints' at this
      rw [List.map_map] at this
      exact this
    · simp only [state?]
      rw [h6.keys]; exact g3

theorem relT_fine {T : List UInt8} {w : World} {a : Addr} {s : St} {F : Nat → Prop} (h : RelT T w a (some s) F) : s.fine := by
  obtain ⟨b, _, _, _, h⟩ := h
  obtain ⟨_, E, B, V, vk, vb, Q, ks, _, h5, h6, _⟩ := h
  exact h6.fine h5

theorem relT_good {T : List UInt8} {w : World} {a : Addr} {s : St} {F : Nat → Prop} (h : RelT T w a (some s) F) : s.good := by
  obtain ⟨b, _, _, _, h⟩ := h
  obtain ⟨_, E, B, V, vk, vb, Q, ks, _, h5, h6, _⟩ := h
  refine ⟨by rw [h6.keys]; exact h5.kl, by rw [h6.keys]; exact h5.led.sorted, fun l hl => ?_⟩
  obtain ⟨i, hi, e⟩ := List.getElem_of_mem hl
  have hi4 : i < 4 := by rw [← h6.four]; exact hi
  obtain ⟨l', g1, g2⟩ := h6.lane i hi4
  have : l' = l := by rw [List.getElem?_eq_getElem hi, e] at g1; exact (Option.some.inj g1).symm
  subst this
  exact ⟨g2.up, fun y hy => by rw [g2.ba]; exact g2.win y hy⟩

theorem relT_puts {T : List UInt8} {w : World} {a : Addr} {o : Option St} {F : Nat → Prop} (h : RelT T w a o F) : Calls Tryz.prog 19 #[.pointer (some a)] w fun e w' =>
    ∃ vp, e = .returned (.tuple #[vp, .int .i64 (errno? o)]) ∧ w'.ownsRow w.heap.size 68 3 vp (puts? o).length (putCells (puts? o)) ∧ RelT T w' a o F ∧ Chg F w w' := by
  obtain ⟨b, rfl, hb, h1, h2⟩ := h
  cases o with
  | none =>
    refine (puts_closed b w h2).mono ?_
    rintro e w' ⟨rfl, g1, g2⟩
    exact ⟨_, rfl, World.ownsRow_nil _ _ _ _, ⟨b, rfl, hb, fun k hk => Nat.lt_of_lt_of_le (h1 k hk) g2.size, g1⟩, g2.mono (fun k hk => by rw [hk]; exact hb)⟩
  | some s =>
    obtain ⟨h3, E, B, V, vk, vb, Q, ks, h4, h5, h6, h7, h8, h9, h10⟩ := h2
    refine (puts_open h3 h4 h5.kl h8).mono ?_
    rintro e w' ⟨vp, rfl, g1, g2, g3, g5, g4⟩
    refine ⟨vp, rfl, ?_, ⟨b, rfl, hb, fun k hk => Nat.lt_of_lt_of_le (h1 k hk) g4.size, g2, E, B, V, vk, vb, Q, ks, g3, h5, h6, h7, g5, h9, h10⟩, g4.mono (fun k hk => by rw [hk]; exact hb)⟩
    simp only [puts?]
    rw [h6.keys]
    exact g1

/-- What is written down of an Answer. -/
def tapeAnsw (T : List UInt8) (key : ByteArray) (n : Int) (o o' : Option St) (T' : List UInt8) : Prop := (T' = T ∧ o' = o) ∨ (T' = T ++ encAns key n ∧ o' ≠ o ∧ (encAns key n).length ≤ 32)

theorem ans_ch {E B : Nat → Int} {Q : Nat → List Wt} {ks : List Ky} {s : St} (h : Ties E B Q ks s) (hf : FlowFit E B Q ks) (key : ByteArray) (n : Int) (hn : inInt n) :
    (ansCh ks key n = false → (Go.Proofs.YthedkdbgfdjlkaaGreat.answer s key n).2 = s) ∧ (ansCh ks key n = true → (Go.Proofs.YthedkdbgfdjlkaaGreat.answer s key n).2 ≠ s ∧ (encAns key n).length ≤ 32) := by
  unfold ansCh Go.Proofs.YthedkdbgfdjlkaaGreat.answer
  rw [h.keys]
  by_cases hok : okKey key = false
  · rw [if_pos hok, if_pos hok]
    exact ⟨fun _ => rfl, fun hh => by cases hh⟩
  · rw [if_neg hok, if_neg hok]
    have hok' : okKey key = true := by simpa using hok
    cases hk : findKy key ks with
    | none => exact ⟨fun _ => rfl, fun hh => by cases hh⟩
    | some k =>
      simp only
      by_cases hb : n < 0 ∨ k.count < n
      · rw [if_pos hb, if_pos hb]
        exact ⟨fun _ => rfl, fun hh => by cases hh⟩
      · rw [if_neg hb, if_neg hb]
        rcases hold_same key n hk with ⟨h1, h2⟩ | h2
        · refine ⟨fun _ => by simp only; rw [h2, ← h.keys], fun hh => ?_⟩
          simp at hh
          omega
        · refine ⟨fun hh => ?_, fun _ => ⟨fun e => ?_, ?_⟩⟩
          · simp at hh
            have h3 : holdKy key n ks = ks := by
              have : ∀ {l : List Ky} {k : Ky}, findKy key l = some k → n ≤ k.held → holdKy key n l = l := by
                intro l
                induction l with
                | nil => intro k hk; simp [findKy] at hk
                | cons y r ih =>
                  intro k hk hle
                  unfold findKy at hk
                  unfold holdKy
                  split at hk
                  · rename_i hy
                    obtain rfl : y = k := by simpa using hk
                    rw [if_pos hy, show max y.held n = y.held by omega]
                  · rename_i hy
                    rw [if_neg hy, ih hk hle]
              exact this hk hh
            rw [h3] at h2
            omega
          · have := congrArg St.keys e
            simp only at this
            rw [this, h.keys] at h2
            omega
          · have hm := findKy_in hk
            have hq0 := qLens_nonneg Q 4
            have htot := hf.led.total
            have hc := (count_le hf.led.count k hm.1).1
            have l1 := encKey_len hok'
            have l2 := encInt_len2 (z := n) (by omega)
            unfold encAns
            simp only [List.length_cons, List.length_append]
            omega

theorem relT_answer {T : List UInt8} {w : World} {a : Addr} {o : Option St} {F : Nat → Prop} (key : ByteArray) (n : Int) (h : RelT T w a o F) (hTl : T.length ≤ 140737488330000) (hkey : key.size ≤ maxLen) (hn : inInt n) : Calls Tryz.prog 21 #[.pointer (some a), .string key, .int .i64 n] w fun e w' =>
    ∃ F' T', e = .returned (.int .i64 (answer? o key n).1) ∧ RelT T' w' a (answer? o key n).2 F' ∧ tapeAnsw T key n o (answer? o key n).2 T' ∧ (∀ k, F' k → F k ∨ w.heap.size ≤ k) ∧ Chg F w w' := by
  obtain ⟨b, rfl, hb, h1, h2⟩ := h
  cases o with
  | none =>
    refine (answer_closed b key n w h2).mono ?_
    rintro e w' ⟨rfl, g1, g2⟩
    exact ⟨F, T, rfl, ⟨b, rfl, hb, fun k hk => Nat.lt_of_lt_of_le (h1 k hk) g2.size, g1⟩, .inl ⟨rfl, rfl⟩, fun k hk => .inl hk, g2.mono (fun k hk => by rw [hk]; exact hb)⟩
  | some s =>
    obtain ⟨h3, E, B, V, vk, vb, Q, ks, h4, h5, h6, h7, h8, h9, h10⟩ := h2
    obtain ⟨t1, t2, t3⟩ := ansF_fit h6 h5 key n
    obtain ⟨u1, u2⟩ := ans_ch h6 h5 key n hn
    have hq0 := qLens_nonneg Q 4
    have htot := h5.led.total
    have hsnd := sound_answer h10 key n
    refine (answer_open h3 h4 h5.led.sorted h5.kl (fun k hk => ?_) h8 hTl key n hkey hn).mono ?_
    · have h8 := h6.held k hk
      have h9 := (count_le h5.led.count k hk).1
      omega
    · rintro e w' ⟨rfl, g1, g2, ⟨vb', g4, g5⟩, g3⟩
      refine ⟨fun k => F k ∨ (w.heap.size ≤ k ∧ k < w'.heap.size), _, by simp only [answer?]; rw [t1], ⟨b, rfl, .inl hb, fun k hk => ?_, g1, E, B, V, vk, vb', Q, _, g2, t2, t3, fun k hk => .inl (h7 k hk), g4, fun k hk => ?_, hsnd⟩, ?_, fun k hk => hk.imp id (fun h => h.1), g3.mono (fun k hk => ?_)⟩
      · rcases hk with hk | hk
        · exact Nat.lt_of_lt_of_le (h1 k hk) g3.size
        · exact hk.2
      · rcases g5 k hk with h | h
        · exact .inl (h9 k h)
        · exact .inr ⟨h, (g4.row.lt k hk).2⟩
      · cases hch : ansCh ks key n with
        | false =>
          refine .inl ⟨rfl, ?_⟩
          simp only [answer?]
          rw [u1 hch]
        | true =>
          refine .inr ⟨rfl, ?_, (u2 hch).2⟩
          simp only [answer?]
          exact fun e => (u2 hch).1 (Option.some.inj e)
      · rcases hk with rfl | hk | hk
        · exact hb
        · exact h7 k (.inr hk)
        · exact h9 k hk

end Go.Proofs.YthedkdbgfdjlkaaGreat

/- Shrink; the program's calls, counted by the length of the bytes. -/
namespace Go.Proofs.YthedkdbgfdjlkaaGreat
set_option linter.unusedVariables false
set_option linter.unusedSimpArgs false
open Go.RowKit Go.Lib Go.Conc.Locks

section
variable {E B : Nat → Int} {Q : Nat → List Wt} {ks : List Ky} {s : St}

theorem keys_plain (h : Ties E B Q ks s) (hf : FlowFit E B Q ks) (hs : s.sound) : ∀ k ∈ ks, k.plain ∧ okKey k.name = true ∧ k.count ≤ 1000 ∧ k.fold ≤ 4294967295 ∧ k.held ≤ 1000 := by
  intro k hk
  have hq0 := qLens_nonneg Q 4
  have htot := hf.led.total
  have hc := (count_le hf.led.count k hk).1
  have hh := h.held k hk
  have hfo := hf.led.fold k hk
  have hn : okKey k.name = true := hs.kname k (by rw [h.keys]; exact hk)
  have hsz := okKey_size hn
  exact ⟨⟨by omega, by omega, by omega, by omega⟩, hn, by omega, by omega, by omega⟩

theorem recs_plain (h : Ties E B Q ks s) (hf : FlowFit E B Q ks) (hs : s.sound) : ∀ x ∈ s.recs, x.plain ∧ x.session ≤ 127 ∧ x.epoch ≤ 9223372036854775807 ∧ x.number ≤ 16000 ∧ okKey x.key = true ∧ x.value ≤ 4294967295 := by
  intro x hx
  obtain ⟨j, l, y, h1, h2, h3⟩ := mem_recsFrom hx
  have hj : j < 4 := by rw [← h.four]; exact (List.getElem?_eq_some_iff.1 h1).1
  obtain ⟨l', g1, g2⟩ := h.lane j hj
  have : l' = l := by rw [h1] at g1; exact (Option.some.inj g1).symm
  subst this
  have hq0 := qLens_nonneg Q 4
  have htot := hf.led.total
  have he := h.eps j hj
  have hb := hf.ba j hj
  have hw := g2.win y h2
  obtain ⟨w1, w2, w3⟩ := hs.wt l' (List.mem_of_getElem? h1) y h2
  have hsz := okKey_size w1
  have hep := g2.ep
  rw [h3]
  refine ⟨⟨?_, ?_, ?_, ?_, ?_⟩, ?_, ?_, ?_, w1, ?_⟩ <;> simp only <;> omega

theorem head_short (h : Ties E B Q ks s) (hf : FlowFit E B Q ks) (hs : s.sound) : (encHead s).length ≤ 512 := by
  have hk := keys_plain h hf hs
  have hr := recs_plain h hf hs
  have hq0 := qLens_nonneg Q 4
  have htot := hf.led.total
  have l1 : (s.lanes.flatMap encSess).length ≤ 4 * 11 := by
    have := flat_len encSess 11 (l := s.lanes) (fun l hl => by
      have hfi := (h.fine hf).lane l hl
      have a1 := encInt_len9 (z := l.epoch) (by omega)
      have a2 := encInt_len2 (z := l.base) (by omega)
      unfold encSess encInts
      simp only [List.flatMap_cons, List.flatMap_nil, List.append_nil, List.length_append]
      omega)
    rw [h.four] at this
    exact this
  have l2 : (s.keys.flatMap encKy).length ≤ 4 * 16 := by
    have h1 := flat_len encKy 16 (l := s.keys) (fun k hk' => by
      rw [h.keys] at hk'
      obtain ⟨_, b1, b2, b3, b4⟩ := hk k hk'
      have a1 := encKey_len b1
      have a2 := encInt_len2 (z := k.count) (by omega)
      have a3 := encInt_len5 (z := k.fold) (by omega)
      have a4 := encInt_len2 (z := k.held) (by omega)
      unfold encKy encInts
      simp only [List.flatMap_cons, List.flatMap_nil, List.append_nil, List.length_append]
      omega)
    have h2 : s.keys.length ≤ 4 := by rw [h.keys]; exact hf.kl
    exact Nat.le_trans h1 (Nat.mul_le_mul_right _ h2)
  have l3 : s.recs.length ≤ 12 := by
    obtain ⟨S, hS1, hS⟩ := lanes_S h
    have hr := (recsU_lanes h hS1).2
    have : (recsU E S 4).length ≤ 12 := by
      have e : ∀ i, i < 4 → (S i).length ≤ 3 := fun i hi => by rw [(hS i hi).2.length_eq.symm]; exact hf.ql i hi
      have e0 := e 0 (by omega); have e1 := e 1 (by omega); have e2 := e 2 (by omega); have e3 := e 3 (by omega)
      simp [recsU]; omega
    rw [hr] at this
    exact this
  have l4 : (s.recs.flatMap encRec).length ≤ 12 * 24 := by
    have h1 := flat_len encRec 24 (l := s.recs) (fun x hx => by
      obtain ⟨_, b1, b2, b3, b4, b5⟩ := hr x hx
      exact encRec_len b1 b2 b3 b4 b5)
    exact Nat.le_trans h1 (Nat.mul_le_mul_right _ l3)
  have l5 := encInt_len1 (z := (s.keys.length : Int)) (by rw [h.keys]; have := hf.kl; omega)
  have l6 := encInt_len1 (z := (s.recs.length : Int)) (by omega)
  have l7 : markB.length = 8 := rfl
  unfold encHead
  simp only [List.length_append]
  omega
end

def tapeShr (T : List UInt8) : Option St → List UInt8
  | none => T
  | some s => encHead s

theorem relT_shrink {T : List UInt8} {w : World} {a : Addr} {o : Option St} {F : Nat → Prop} (h : RelT T w a o F) : Calls Tryz.prog 30 #[.pointer (some a)] w fun e w' =>
    ∃ F', e = .returned (.int .i64 (errno? o)) ∧ RelT (tapeShr T o) w' a o F' ∧ (∀ k, F' k → F k ∨ w.heap.size ≤ k) ∧ Chg F w w' := by
  obtain ⟨b, rfl, hb, h1, h2⟩ := h
  cases o with
  | none =>
    refine (shrink_closed b w h2).mono ?_
    rintro e w' ⟨rfl, g1, g2⟩
    exact ⟨F, rfl, ⟨b, rfl, hb, fun k hk => Nat.lt_of_lt_of_le (h1 k hk) g2.size, g1⟩, fun k hk => .inl hk, g2.mono (fun k hk => by rw [hk]; exact hb)⟩
  | some s =>
    obtain ⟨h3, E, B, V, vk, vb, Q, ks, h4, h5, h6, h7, h8, h9, h10⟩ := h2
    obtain ⟨S, hS1, hS⟩ := lanes_S h6
    obtain ⟨e1, e2⟩ := recsU_lanes h6 hS1
    have hq0 := qLens_nonneg Q 4
    have htot := h5.led.total
    refine (shrink_open h3 h4 h8 (fun i hi => by have := h5.ql i hi; omega) h5.kl hS h6.eps (fun i hi => by have := h5.ba i hi; omega) (fun k hk => (keys_plain h6 h5 h10 k hk).1) (fun x hx => (recs_plain h6 h5 h10 x (by rw [← e2]; exact hx)).1)).mono ?_
    rintro e w' ⟨rfl, g1, g2, ⟨vb', g3, g4⟩, g5⟩
    rw [e1] at g3
    refine ⟨fun k => F k ∨ (w.heap.size ≤ k ∧ k < w'.heap.size), rfl, ⟨b, rfl, .inl hb, fun k hk => ?_, g1, E, B, V, vk, vb', Q, ks, g2, h5, h6, fun k hk => .inl (h7 k hk), g3, fun k hk => .inr ⟨g4 k hk, (g3.row.lt k hk).2⟩, h10⟩, fun k hk => hk.imp id (fun h => h.1), g5.mono (fun k hk => by rw [hk]; exact hb)⟩
    rcases hk with hk | hk
    · exact Nat.lt_of_lt_of_le (h1 k hk) g5.size
    · exact hk.2

theorem relT_short {T : List UInt8} {w : World} {a : Addr} {s : St} {F : Nat → Prop} (h : RelT T w a (some s) F) : (encHead s).length ≤ 512 := by
  obtain ⟨b, _, _, _, h⟩ := h
  obtain ⟨_, E, B, V, vk, vb, Q, ks, _, h5, h6, _, _, _, h10⟩ := h
  exact head_short h6 h5 h10

theorem init_short : (encHead St.init).length ≤ 512 := by
  have e : (encHead St.init).length = 18 := by
    simp [encHead, St.init, Ln.init, St.recs, recsFrom, encSess, encInts, encInt, markB, encNum_small]
  omega

theorem apiN : ApiN RelN := by
  refine ⟨fun ⟨T, _, h⟩ hk => relT_lt h hk, fun ⟨T, h1, h⟩ hs => ⟨T, h1, relT_stable h hs⟩, fun ⟨T, h1, h⟩ hm => ⟨T, by omega, h⟩, fun ⟨T, _, h⟩ => relT_fine h, fun w => ?_, fun x hR hn hx => ?_, fun hR => ?_, fun hR => ?_⟩
  · exact (relT_new w).mono fun e w' ⟨a, F, h1, h2, h3, h4⟩ => ⟨a, F, h1, ⟨_, init_short, h2⟩, h3, h4⟩
  · obtain ⟨T, hT, h⟩ := hR
    refine (relT_accept x h (by unfold roomy at hn; omega) hx).mono ?_
    rintro e w' ⟨F', T', h1, h2, h3, h4, h5⟩
    rcases h3 with ⟨rfl, e1⟩ | ⟨rfl, e1, e2⟩
    · exact ⟨F', _, h1, ⟨_, hT, h2⟩, h4, h5, by omega, fun _ => rfl⟩
    · exact ⟨F', _, h1, ⟨_, by rw [List.length_append]; exact Nat.add_le_add hT e2, h2⟩, h4, h5, Nat.le_refl _, fun e => absurd e e1⟩
  · obtain ⟨T, hT, h⟩ := hR
    refine (relT_state h).mono ?_
    rintro e w' ⟨vs, vk, h1, h2, h3, h4⟩
    exact ⟨vs, vk, h1, h2, ⟨T, hT, h3⟩, h4⟩
  · obtain ⟨T, hT, h⟩ := hR
    refine (relT_close h).mono ?_
    rintro e w' ⟨h1, h2, h3⟩
    exact ⟨h1, ⟨T, hT, h2⟩, h3⟩

theorem apiSN : ApiSN RelN := by
  refine ⟨fun hR => ?_, fun key n hR hm hk hn => ?_⟩
  · obtain ⟨T, hT, h⟩ := hR
    refine (relT_puts h).mono ?_
    rintro e w' ⟨vp, h1, h2, h3, h4⟩
    exact ⟨vp, h1, h2, ⟨T, hT, h3⟩, h4⟩
  · obtain ⟨T, hT, h⟩ := hR
    refine (relT_answer key n h (by unfold roomy at hm; omega) hk hn).mono ?_
    rintro e w' ⟨F', T', h1, h2, h3, h4, h5⟩
    rcases h3 with ⟨rfl, e1⟩ | ⟨rfl, e1, e2⟩
    · exact ⟨F', _, h1, ⟨_, hT, h2⟩, h4, h5, by omega, fun _ => rfl⟩
    · exact ⟨F', _, h1, ⟨_, by rw [List.length_append]; exact Nat.add_le_add hT e2, h2⟩, h4, h5, Nat.le_refl _, fun e => absurd e e1⟩

theorem apiB : ApiB RelN := by
  refine ⟨fun ⟨T, _, h⟩ => relT_good h, fun key n hR hm hk hn => ?_, fun hR => ?_⟩
  · obtain ⟨T, hT, h⟩ := hR
    refine (relT_answer key n h (by unfold roomy at hm; omega) hk hn).mono ?_
    rintro e w' ⟨F', T', h1, h2, h3, h4, h5⟩
    obtain ⟨g1, g2⟩ := answer_but _ key n
    refine ⟨F', _, _, h1, ⟨T', ?_, h2⟩, g1, g2, h4, h5⟩
    rcases h3 with ⟨rfl, _⟩ | ⟨rfl, _, e2⟩
    · omega
    · rw [List.length_append]; omega
  · obtain ⟨T, hT, h⟩ := hR
    have hs := relT_short h
    refine (relT_shrink h).mono ?_
    rintro e w' ⟨F', h1, h2, h3, h4⟩
    exact ⟨F', _, h1, ⟨_, hs, h2⟩, h3, h4⟩

end Go.Proofs.YthedkdbgfdjlkaaGreat

/- Once, WALKED. -/
namespace Go.Proofs.YthedkdbgfdjlkaaGreat
set_option linter.unusedVariables false
set_option linter.unusedSimpArgs false
open Go.RowKit Go.Lib

variable {R : World → Addr → Option St → (Nat → Prop) → Prop}

set_option maxRecDepth 100000 in
set_option maxHeartbeats 8000000 in
theorem once_walk (H : Api R) (w : World) (v u : Value) (L : List Snt) (P : List Int) (hS : SentAt w v L) (hP : IntsAt w u P) :
    Calls Tryz.prog 3 #[v, u] w fun e w' => e = .returned (.bool true) ∧ Chg (fun _ => False) w w' := by
  obtain ⟨pv, cv, rfl⟩ := hS.val
  obtain ⟨pu, cu, rfl⟩ := hP.val
  have hlen := hP.len
  go_enter Tryz.func3, Tryz.ntmps3
  go_wp2_with fail
  refine (taking_any H w).mono ?_
  rintro _ w1 ⟨rfl, c1⟩
  go_wp2_with fail
  refine (H.new w1).mono ?_
  rintro _ w2 ⟨a, F2, rfl, hR2, hF2, c2⟩
  have c02 : Chg (fun _ => False) w w2 := c1.trans c2 (fun _ _ h => h)
  have hF02 : ∀ k, F2 k → w.heap.size ≤ k := fun k hk => Nat.le_trans c1.size (hF2 k hk)
  have hlt2 : ∀ k, F2 k → k < w2.heap.size := fun k hk => H.lt hR2 hk
  have hS2 : SentAt w2 (.slice pv L.length cv) L := ⟨hS.val, hS.len, fun i x hx => by
    obtain ⟨sb, so, cap, e, y0, y1, y2⟩ := hS.cells i x hx
    exact ⟨sb, so, cap, e, c02.cellAt y0 id, c02.cellAt y1 id, c02.cellAt y2 id⟩, hS.fits⟩
  clear c1 c2 hF2
  go_wp2_with fail
  refine (numbered_any hS2).mono ?_
  rintro _ w3 ⟨va, all, rfl, ra, hN, c3⟩
  have hfew := hN.few
  obtain ⟨pa, ca, rfl⟩ := row_any ra
  obtain ⟨W4, hW4⟩ : ∃ W4, W4 = w3.alloc (Obj.cells #[.slice none 0 0, .int .i64 0, .int .i64 0, .int .i64 0, .int .i64 0] 32) := ⟨_, rfl⟩
  have c34 : Chg (fun _ => False) w3 W4 := by rw [hW4]; exact (Chg.refl _ w3).alloc _
  have hz23 := c3.size
  have hz02 := c02.size
  have hH : Half R W4 a w3.heap.size w.heap.size (.slice pa all.length ca) (.slice none 0 0) all [] St.init F2 (fun _ => 0) := by
    refine ⟨H.keep (H.keep hR2 c3) c34, ⟨?_, fun j hj => ?_, fun j => ?_, World.ownsRow_nil _ _ _ _, by simp [Value.ownBlock]⟩, row_lower (c34.row' ra (fun _ _ h => h)) hz02, fun h => ?_, fun k hk => by simp [Value.ownBlock] at hk, fun k hk hf => ?_, fun h => ?_, fun g _ hv => by simp [Value.ownBlock] at hv, ?_⟩
    · rw [hW4]; exact World.cell?_alloc_at _ _ _ _ rfl
    · rw [hW4]
      rcases (by omega : j = 0 ∨ j = 1 ∨ j = 2 ∨ j = 3) with rfl | rfl | rfl | rfl <;> exact World.cell?_alloc_at _ _ _ _ rfl
    · rw [hW4]; exact World.frozen?_alloc_at _ _ _ _ rfl
    · have := hlt2 _ h; omega
    · have := hlt2 _ hf
      have := (ra.lt k hk).1
      omega
    · have := (ra.lt _ h).2; omega
    · have := c34.size; omega
  have c04 : Chg (fun _ => False) w W4 := (c02.trans c3 (fun _ _ h => h)).trans c34 (fun _ _ h => h)
  have hob : w.heap.size ≤ w3.heap.size := by omega
  clear c02 hR2 hS2 hlt2 c3 ra c34 hz23 hz02
  go_wp2_with fail
  rw [← hW4]
  clear hW4
  go_loopw [9, 10, 11, 12, 13] (fun si _ _ _ _ wr => ∃ (i : Nat) (ol : List Rec) (s : St) (F : Nat → Prop) (vl : Value) (B : Nat → Int), si = .int .i64 i ∧ i ≤ P.length ∧ Half R wr a w3.heap.size w.heap.size (.slice pa all.length ca) vl all ol s F B ∧ OInv all ol s ∧ basesOf s B ∧ (∀ k, F k → w.heap.size ≤ k) ∧ Chg (fun _ => False) w wr) (fun si _ _ _ _ _ => P.length - (intOf si).toNat)
  case atStart => exact ⟨0, [], _, F2, _, _, rfl, by omega, hH, OInv.init all, basesOf_init, hF02, c04⟩
  case round =>
    obtain ⟨i, ol, s, F, vl, B, rfl, hi, hH1, hI, hB, hFw, hc⟩ := hrel
    clear hH c04 hF02
    by_cases hgo : i < P.length ∧ 0 < all.length
    · obtain ⟨hil, hal⟩ := hgo
      have hil' : (i : Int) < (P.length : Int) := by omega
      · have hal' : (0 : Int) < (all.length : Int) := by omega
        obtain ⟨c, hcx⟩ : ∃ c, P[i]? = some c := ⟨_, List.getElem?_eq_getElem hil⟩
        obtain ⟨sb, so, cap, hvv, y0⟩ := hP.cells i c hcx
        simp only [Value.slice.injEq] at hvv
        obtain ⟨rfl, _, rfl⟩ := hvv
        have hpk := fun w => pick_any c all.length w (hP.fits c (List.mem_of_getElem? hcx)) (by omega) (by omega)
        have hpr := pickI_range (c := c) (n := all.length) (by omega)
        obtain ⟨kn, hkn⟩ : ∃ kn : Nat, pickI c all.length = kn := ⟨(pickI c all.length).toNat, by omega⟩
        rw [hkn] at hpk hpr
        have hkl : kn < all.length := by omega
        have hkl' : (kn : Int) < (all.length : Int) := by omega
        obtain ⟨x, hx⟩ : ∃ x, all[kn]? = some x := ⟨_, List.getElem?_eq_getElem hkl⟩
        have hxm := List.mem_of_getElem? hx
        have hxe := hN.each x hxm
        obtain ⟨ga, ca', hva, _, _, hcell⟩ := row_pos hH1.row (by omega)
        simp only [Value.slice.injEq] at hva
        obtain ⟨rfl, _, rfl⟩ := hva
        have cx := recCells_at all kn x hx
        have m0 := hcell _ _ cx.1
        have m1 := hcell _ _ cx.2.1
        have m2 := hcell _ _ cx.2.2.1
        have m3 := hcell _ _ cx.2.2.2.1
        have m4 := hcell _ _ cx.2.2.2.2
        obtain ⟨sn, hsn⟩ : ∃ sn : Nat, x.session = sn := ⟨x.session.toNat, by omega⟩
        obtain ⟨xs, xe, xn, xk, xv⟩ := x
        simp only at hsn hxe m0 m1 m2 m3 m4
        obtain ⟨hx1, hx2, rfl, hx4, hx5⟩ := hxe
        subst hsn
        have hsn4 : sn < 4 := by omega
        have hsn4' : (sn : Int) < 4 := by omega
        obtain ⟨hnn, hno⟩ := ofS_number hN hxm (i := sn) rfl
        have hnl := (List.getElem?_eq_some_iff.1 hno).1
        simp only at hnn hnl
        have hol : (ofS all sn).length ≤ all.length := List.length_filter_le _ _
        obtain ⟨l, hl⟩ : ∃ l, s.lanes[sn]? = some l := ⟨_, List.getElem?_eq_getElem (by rw [hI.four]; exact hsn4)⟩
        have hbl := hB sn l hl
        have hLi := hI.lane sn l hl
        have hfit : (⟨sn, 0, xn, xk, xv⟩ : Rec).fits := by
          refine ⟨?_, ?_, ?_, ?_, ?_⟩
          · unfold inInt; simp only; omega
          · unfold inInt; simp only; omega
          · unfold inInt; simp only; omega
          · unfold inInt; simp only; omega
          · simp only [names4, List.mem_cons, List.not_mem_nil, or_false] at hx4
            rcases hx4 with e | e | e | e <;> simp only <;> rw [e] <;> decide
        obtain ⟨W5, hW5⟩ : ∃ W5, W5 = wr.alloc (Obj.cells #[.int .i64 sn, .int .i64 0, .int .i64 xn, .string xk, .int .i64 xv] 34) := ⟨_, rfl⟩
        have c5 : Chg (fun _ => False) wr W5 := by rw [hW5]; exact (Chg.refl _ wr).alloc _
        have z0 : W5.cell? ⟨wr.heap.size, 0, none⟩ = some (.int .i64 sn) := by rw [hW5]; exact World.cell?_alloc_at _ _ _ _ rfl
        have z1 : W5.cell? ⟨wr.heap.size, 1, none⟩ = some (.int .i64 0) := by rw [hW5]; exact World.cell?_alloc_at _ _ _ _ rfl
        have z2 : W5.cell? ⟨wr.heap.size, 2, none⟩ = some (.int .i64 xn) := by rw [hW5]; exact World.cell?_alloc_at _ _ _ _ rfl
        have z3 : W5.cell? ⟨wr.heap.size, 3, none⟩ = some (.string xk) := by rw [hW5]; exact World.cell?_alloc_at _ _ _ _ rfl
        have z4 : W5.cell? ⟨wr.heap.size, 4, none⟩ = some (.int .i64 xv) := by rw [hW5]; exact World.cell?_alloc_at _ _ _ _ rfl
        have hH5 := hH1.keep H c5
        have hxF : ¬ F wr.heap.size := fun h => by have := H.lt hH1.rel h; omega
        have hacc := H.accept ⟨sn, 0, xn, xk, xv⟩ hH5.rel rfl hfit
        have yr := hc.cellAt y0 id
        have cw5 : Chg (fun _ => False) w W5 := hc.trans c5 (fun _ _ h => h)
        have hao := accept_once hN hI hxm (i := sn) rfl hl
        have hbr : 0 ≤ l.base ∧ l.base ≤ 900 := by have := hLi.lo; have := hLi.hi; omega
        rw [hbl] at hbr
        clear hcell cx hkn hcx
        rcases hao with ⟨hfar, hff⟩ | ⟨b, hT⟩
        · simp only [accept?, hfar] at hacc
          simp only at hff
          rw [hbl] at hff
          clear hfar hfit hno hbl
          unfold Rec.value' at hacc
          go_wp2_with fail
          refine (hpk _).mono ?_
          rintro _ wp ⟨rfl, ewp⟩
          rw [ewp]
          clear ewp wp
          go_wp2_with fail
          rw [← hW5]
          refine hacc.mono ?_
          rintro _ w6 ⟨F6, rfl, hR6, hF6, c6⟩
          clear hacc hW5
          have hH6 := hH5.accept c6 hF6 hR6
          have q0 := c6.cellAt z0 hxF
          have q2 := c6.cellAt z2 hxF
          have hbc := hH6.ord.bs sn hsn4
          have hnf : ¬ xn < B sn + 4 := by omega
          have hnf' : decide (xn < B sn + 4) = false := decide_eq_false hnf
          go_wp2_with fail
          go_quiet (fail)
          go_wp2_with fail
          have cq : Chg (fun _ => False) w6 (w6.drewN nq) := ((Quiet.refl _).drewN _).chg _
          exact ⟨⟨i + 1, ol, s, F6, vl, B, by go_num, by omega, hH6.keep H cq, hI, hB, cw5.young hFw hF6, (cw5.step c6 hFw).trans cq (fun _ _ h => h)⟩, by simp [intOf]; omega⟩
        · obtain ⟨s', hs'⟩ : ∃ s', s' = (accept s ⟨sn, 0, xn, xk, xv⟩).2 := ⟨_, rfl⟩
          have hTi := hT.inv
          have hTb := hT.bases hB
          have hTl := hT.lo
          have hTh := hT.hi
          have hTn := hT.len
          simp only [accept?, hT.ans] at hacc
          rw [hbl] at hTi hTl hTh
          rw [← hs'] at hTi hTb hacc
          clear hT hs' hfit hno hbl
          have holl := hI.short hN
          unfold Rec.value' at hacc
          go_wp2_with fail
          refine (hpk _).mono ?_
          rintro _ wp ⟨rfl, ewp⟩
          rw [ewp]
          clear ewp wp
          go_wp2_with fail
          rw [← hW5]
          refine hacc.mono ?_
          rintro _ w6 ⟨F6, rfl, hR6, hF6, c6⟩
          clear hacc hW5
          have hH6 := hH5.accept c6 hF6 hR6
          have q0 := c6.cellAt z0 hxF
          have hmore := more_any (b := b) hsn4 hH6.ord hH6.row hH6.ao hH6.sep hH6.lo hN hbr.1 hTl hTh hTn holl
          go_wp2_with fail
          refine hmore.mono ?_
          rintro _ w7 ⟨rfl, vl', ho, hW, c7⟩
          clear hmore
          have cw6 : Chg (fun _ => False) w w6 := cw5.step c6 hFw
          go_wp2_with fail
          exact ⟨⟨i + 1, _, s', F6, vl', _, by go_num, by omega, hH6.more H ho hW c7, hTi, hTb, cw5.young hFw hF6, young_more cw6 hH6.ord hob c7⟩, by simp [intOf]; omega⟩
    · have hgo' : (¬ (i : Int) < (P.length : Int)) ∨ ((i : Int) < (P.length : Int) ∧ ¬ (0 : Int) < (all.length : Int)) := by omega
      obtain ⟨pl, cl, rfl⟩ := row_any hH1.ord.row
      have hlc := hH1.ord.list
      have hsum := sums_any H hH1.rel hH1.ord.row hH1.fl hI hN
      clear hgo
      rcases hgo' with hg | ⟨hg1, hg2⟩
      all_goals
        go_wp2_with fail
        refine hsum.mono ?_
        rintro _ w4 ⟨rfl, hR4, c4⟩
        have hH4 := hH1.accept c4 (fun k hk => .inl hk) hR4
        have cw4 : Chg (fun _ => False) w w4 := hc.step c4 hFw
        clear hsum hlc hH1 c4 hR4
        go_wp2_with fail
        go_loopw [15, 16, 17, 18] (fun si _ _ _ wr => ∃ (p : Nat) (ol : List Rec) (s : St) (F : Nat → Prop) (vl : Value) (B : Nat → Int), si = .int .i64 p ∧ p ≤ all.length ∧ Half R wr a w3.heap.size w.heap.size (.slice pa all.length ca) vl all ol s F B ∧ OInv all ol s ∧ basesOf s B ∧ (∀ j, j < 4 → ((ofS (all.take p) j).length : Int) ≤ B j) ∧ (∀ k, F k → w.heap.size ≤ k) ∧ Chg (fun _ => False) w wr) (fun si _ _ _ _ => all.length - (intOf si).toNat)
        case atStart => exact ⟨0, ol, s, F, _, B, rfl, by omega, hH4, hI, hB, fun j hj => by
          obtain ⟨l, hl⟩ : ∃ l, s.lanes[j]? = some l := ⟨_, List.getElem?_eq_getElem (by rw [hI.four]; exact hj)⟩
          rw [← hB j l hl]
          simpa [ofS] using (hI.lane j l hl).lo, hFw, cw4⟩
        case round =>
          clear hI hB hFw cw4 hH4 hc hi
          obtain ⟨p, ol, s, F, vl, B, rfl, hp, hH1, hI, hB, hD, hFw, hc⟩ := hrel
          by_cases hpl : p < all.length
          · first
            | exfalso; omega
            |
              have hpl' : (p : Int) < (all.length : Int) := by omega
              obtain ⟨x, hx⟩ : ∃ x, all[p]? = some x := ⟨_, List.getElem?_eq_getElem hpl⟩
              have hxm := List.mem_of_getElem? hx
              have hxe := hN.each x hxm
              obtain ⟨ga, ca', hva, _, _, hcell⟩ := row_pos hH1.row (by omega)
              simp only [Value.slice.injEq] at hva
              obtain ⟨rfl, _, rfl⟩ := hva
              have cx := recCells_at all p x hx
              have m0 := hcell _ _ cx.1
              have m1 := hcell _ _ cx.2.1
              have m2 := hcell _ _ cx.2.2.1
              have m3 := hcell _ _ cx.2.2.2.1
              have m4 := hcell _ _ cx.2.2.2.2
              have cx0 := cx.1
              have cx2 := cx.2.2.1
              obtain ⟨sn, hsn⟩ : ∃ sn : Nat, x.session = sn := ⟨x.session.toNat, by omega⟩
              obtain ⟨xs, xe, xn, xk, xv⟩ := x
              simp only at hsn hxe m0 m1 m2 m3 m4 cx0 cx2
              obtain ⟨hx1, hx2, rfl, hx4, hx5⟩ := hxe
              subst hsn
              have hsn4 : sn < 4 := by omega
              have hsn4' : (sn : Int) < 4 := by omega
              have hnum : xn = (ofS (all.take p) sn).length := numbered_at hN hx (i := sn) rfl
              have hnx := ofS_take_next hx
              simp only at hnx
              obtain ⟨hnn, hno⟩ := ofS_number hN hxm (i := sn) rfl
              have hnl := (List.getElem?_eq_some_iff.1 hno).1
              simp only at hnn hnl
              have hol : (ofS all sn).length ≤ all.length := List.length_filter_le _ _
              obtain ⟨l, hl⟩ : ∃ l, s.lanes[sn]? = some l := ⟨_, List.getElem?_eq_getElem (by rw [hI.four]; exact hsn4)⟩
              have hbl := hB sn l hl
              have hLi := hI.lane sn l hl
              have hDs := hD sn hsn4
              rw [← hnum] at hDs
              have hfit : (⟨sn, 0, xn, xk, xv⟩ : Rec).fits := by
                refine ⟨?_, ?_, ?_, ?_, ?_⟩
                · unfold inInt; simp only; omega
                · unfold inInt; simp only; omega
                · unfold inInt; simp only; omega
                · unfold inInt; simp only; omega
                · simp only [names4, List.mem_cons, List.not_mem_nil, or_false] at hx4
                  rcases hx4 with e | e | e | e <;> simp only <;> rw [e] <;> decide
              have hacc := H.accept ⟨sn, 0, xn, xk, xv⟩ hH1.rel rfl hfit
              have hbr : 0 ≤ l.base ∧ l.base ≤ 900 := by have := hLi.lo; have := hLi.hi; omega
              rw [hbl] at hbr
              have hao := accept_once hN hI hxm (i := sn) rfl hl
              rcases hao with ⟨hfar, hff⟩ | ⟨b, hT⟩
              · exfalso
                simp only at hff
                omega
              · obtain ⟨s', hs'⟩ : ∃ s', s' = (accept s ⟨sn, 0, xn, xk, xv⟩).2 := ⟨_, rfl⟩
                have hTi := hT.inv
                have hTb := hT.bases hB
                have hTl := hT.lo
                have hTh := hT.hi
                have hTn := hT.len
                have hTp := hT.past
                simp only at hTp
                simp only [accept?, hT.ans] at hacc
                rw [hbl] at hTi hTl hTh hTp
                have hpast : ¬ b ≤ xn := by have := hTp hDs; omega
                have HD : Hid (∀ j, j < 4 → ((ofS (all.take (p + 1)) j).length : Int) ≤ if j = sn then b else B j) := fun j hj => by
                  rw [hnx j]
                  by_cases e : j = sn
                  · subst e
                    simp
                    omega
                  · have := hD j hj
                    have e2 : ¬ (sn : Int) = (j : Int) := by omega
                    simp [e, e2]
                    exact this
                rw [← hs'] at hTi hTb hacc
                clear hT hs' hfit hno hbl hnum hnx hTp hDs
                have holl := hI.short hN
                unfold Rec.value' at hacc
                go_wp2_with fail
                refine hacc.mono ?_
                rintro _ w6 ⟨F6, rfl, hR6, hF6, c6⟩
                clear hacc
                have hH6 := hH1.accept c6 hF6 hR6
                obtain ⟨_, _, hva, _, _, hcell6⟩ := row_pos hH6.row (by omega)
                simp only [Value.slice.injEq, Option.some.injEq, Addr.mk.injEq] at hva
                obtain ⟨⟨rfl, _, _⟩, _, rfl⟩ := hva
                have q0 := hcell6 _ _ cx0
                have hmore := more_any (b := b) hsn4 hH6.ord hH6.row hH6.ao hH6.sep hH6.lo hN hbr.1 hTl hTh hTn holl
                go_wp2_with fail
                refine hmore.mono ?_
                rintro _ w7 ⟨rfl, vl', ho, hW, c7⟩
                clear hmore
                have cw6 : Chg (fun _ => False) w w6 := hc.step c6 hFw
                have hH7 := hH6.more H ho hW c7
                obtain ⟨_, _, hva, _, _, hcell7⟩ := row_pos hH7.row (by omega)
                simp only [Value.slice.injEq, Option.some.injEq, Addr.mk.injEq] at hva
                obtain ⟨⟨rfl, _, _⟩, _, rfl⟩ := hva
                have q2 := hcell7 _ _ cx2
                clear hcell6 hcell7 hcell
                go_wp2_with fail
                exact ⟨⟨p + 1, _, s', F6, vl', _, by go_num, by omega, hH7, hTi, hTb, HD.out, hc.young hFw hF6, young_more cw6 hH6.ord hob c7⟩, by simp [intOf]; omega⟩
          · have hpl' : ¬ (p : Int) < (all.length : Int) := by omega
            obtain ⟨pl, cl, rfl⟩ := row_any hH1.ord.row
            have hlc := hH1.ord.list
            have hsum := sums_any H hH1.rel hH1.ord.row hH1.fl hI hN
            have hall : ol.length = all.length := hI.all hN (fun j l hl => by
              have hj : j < 4 := by
                have := (List.getElem?_eq_some_iff.1 hl).1
                rw [hI.four] at this
                exact this
              have h1 := hD j hj
              rw [List.take_of_length_le (by omega)] at h1
              rw [hB j l hl]
              exact h1)
            rw [hall] at hlc hsum
            go_wp2_with fail
            refine hsum.mono ?_
            rintro _ w8 ⟨rfl, hR8, c8⟩
            have q0 := c8.cellAt hlc hH1.fo
            clear hsum
            go_wp2_with fail
            go_ret
            exact ⟨by simp, hc.step c8 hFw⟩

end Go.Proofs.YthedkdbgfdjlkaaGreat
