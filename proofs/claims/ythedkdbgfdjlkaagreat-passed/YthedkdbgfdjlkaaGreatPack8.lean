import Derived.Deep.CutRange
import Derived.Test.YthedkdbgfdjlkaaGreatPack1
import Derived.Test.YthedkdbgfdjlkaaGreatPack2
import Derived.Test.YthedkdbgfdjlkaaGreatPack3
import Derived.Test.YthedkdbgfdjlkaaGreatPack4
import Derived.Test.YthedkdbgfdjlkaaGreatPack5
import Derived.Test.YthedkdbgfdjlkaaGreatPack6
import Derived.Test.YthedkdbgfdjlkaaGreatPack7
/- The program's calls are the document's, whatever epochs there are. -/
namespace Go.Proofs.YthedkdbgfdjlkaaGreat
set_option linter.unusedVariables false
set_option linter.unusedSimpArgs false
open Go.RowKit Go.Lib Go.Conc.Locks

theorem relT_new (w : World) : Calls Tryz.prog 8 #[] w fun e w' => ∃ a F, e = .returned (.pointer (some a)) ∧ RelT (encHead St.init) w' a (some St.init) F ∧ (∀ k, F k → w.heap.size ≤ k) ∧ Chg (fun _ => False) w w' := by
  refine (New_cells w).mono ?_
  rintro e w' ⟨v, w1, rfl, r1, c1, hw⟩
  have hz := c1.size
  have cA : Chg (fun _ => False) w1 w' := by rw [hw]; exact chg_alloc _ _
  have hs : w'.heap.size = w1.heap.size + 1 := by rw [hw]; simp
  have nb : v.ownBlock ≠ some w1.heap.size := fun e => by have := (r1.lt _ e).2; omega
  refine ⟨_, fun k => k = w1.heap.size ∨ v.ownBlock = some k, rfl, ⟨w1.heap.size, rfl, .inl rfl, fun k hk => ?_, ?_, fun _ => 0, fun _ => 0, fun _ => .slice none 0 0, .slice none 0 0, v, fun _ => [], [], ?_, ?_, ?_, ?_, ?_, fun k hk => .inr hk, sound_init⟩, fun k hk => ?_, c1.trans cA (fun _ _ h => h)⟩
  · rcases hk with rfl | hk
    · omega
    · have := (r1.lt k hk).2; omega
  · rw [hw]
    exact ⟨World.cell?_alloc_at _ _ _ _ rfl, World.cell?_alloc_at _ _ _ _ rfl, World.cell?_alloc_at _ _ _ _ rfl, World.cell?_alloc_at _ _ _ _ rfl, fun j => World.frozen?_alloc_at _ _ _ _ rfl⟩
  · rw [hw]
    refine ⟨⟨fun i hi => ?_, fun i hi => ?_, fun i hi => ?_, World.cell?_alloc_at _ _ _ _ rfl⟩, fun j => World.frozen?_alloc_at _ _ _ _ rfl, fun i hi => World.ownsRow_nil _ _ _ _, World.ownsRow_nil _ _ _ _, fun i hi => by simp [Value.ownBlock], by simp [Value.ownBlock], fun i j _ _ _ g hg => by simp [Value.ownBlock] at hg, fun i _ g hg => by simp [Value.ownBlock] at hg, Nat.zero_le _⟩
    · rcases (by omega : i = 0 ∨ i = 1 ∨ i = 2 ∨ i = 3) with rfl | rfl | rfl | rfl <;> exact World.cell?_alloc_at _ _ _ _ rfl
    · rcases (by omega : i = 0 ∨ i = 1 ∨ i = 2 ∨ i = 3) with rfl | rfl | rfl | rfl <;> exact World.cell?_alloc_at _ _ _ _ rfl
    · rcases (by omega : i = 0 ∨ i = 1 ∨ i = 2 ∨ i = 3) with rfl | rfl | rfl | rfl <;> exact World.cell?_alloc_at _ _ _ _ rfl
  · exact ⟨fun i hi => by simp, by simp, ⟨List.Pairwise.nil, by simp, by simp, by simp, by simp [counts, qLens]⟩, fun i hi => by simp [counts], fun i hi x hx => by simp at hx⟩
  · refine ⟨rfl, rfl, fun i hi => ⟨Ln.init, ?_, rfl, rfl, List.Pairwise.nil, .refl _, trivial, by simp [Ln.init]⟩, fun i hi => by simp, by simp [St.names, St.init, Ln.init, distinct], by simp⟩
    rcases (by omega : i = 0 ∨ i = 1 ∨ i = 2 ∨ i = 3) with rfl | rfl | rfl | rfl <;> rfl
  · intro k hk
    rcases hk with ⟨i, _, hk⟩ | hk <;> simp [Value.ownBlock] at hk
  · rw [encHead_init]
    refine ⟨by rw [hw]; exact World.cell?_alloc_at _ _ _ _ rfl, (r1.lower (Nat.zero_le _)).chg cA (fun _ _ h => h), nb, fun k _ hr => ?_⟩
    rcases hr with ⟨i, _, hr⟩ | hr <;> simp [Value.ownBlock] at hr
  · rcases hk with rfl | hk
    · omega
    · exact (r1.lt k hk).1

/-- What is written down of an Accept. -/
def tapeAcc (T : List UInt8) (x : Rec) (o o' : Option St) (T' : List UInt8) : Prop := (T' = T ∧ o' = o) ∨ (T' = T ++ encAcc x ∧ o' ≠ o ∧ (encAcc x).length ≤ 32)

theorem acc_short {E B : Nat → Int} {Q : Nat → List Wt} {ks : List Ky} (hf : FlowFit E B Q ks) {x : Rec} (hx : x.fits) (h : (accF E B Q ks x).2.isSome = true) : (encAcc x).length ≤ 32 := by
  unfold accF at h
  by_cases hb : recErr x ≠ 0
  · rw [if_pos hb] at h; cases h
  · rw [if_neg hb] at h
    have hgood : recErr x = 0 := by simpa using hb
    by_cases he : x.epoch < E x.session.toNat
    · rw [if_pos he] at h; cases h
    · rw [if_neg he] at h
      unfold recErr at hgood
      split at hgood
      · cases hgood
      · rename_i h1
        split at hgood
        · cases hgood
        · rename_i h2
          have hk : okKey x.key = true := by
            cases e : okKey x.key
            · exact absurd (.inl e) h2
            · rfl
          obtain ⟨f1, f2, f3, f4, _⟩ := hx
          unfold inInt at f1 f2 f3 f4
          have hq0 := qLens_nonneg Q 4
          have htot := hf.led.total
          have hba := hf.ba x.session.toNat (by omega)
          have hn : x.number ≤ 16000 := by
            unfold accH at h
            by_cases hn : ¬ (0 ≤ x.number ∧ x.number < tB E B x.session.toNat x.epoch + 4)
            · rw [if_pos hn] at h; cases h
            · have : tB E B x.session.toNat x.epoch ≤ 1000 := by
                unfold tB
                split
                · omega
                · omega
              omega
          have := encRec_len (x := x) (by omega) (by omega) hn hk (by omega)
          unfold encAcc
          simp only [List.length_cons]
          omega

theorem relT_accept {T : List UInt8} {w : World} {a : Addr} {o : Option St} {F : Nat → Prop} (x : Rec) (h : RelT T w a o F) (hTl : T.length ≤ 140737488330000) (hx : x.fits) : Calls Tryz.prog 11 #[.pointer (some a), x.value'] w fun e w' =>
    ∃ F' T', e = .returned (.tuple #[.int .i64 (accept? o x).1.1, .int .i64 (accept? o x).1.2]) ∧ RelT T' w' a (accept? o x).2 F' ∧ tapeAcc T x o (accept? o x).2 T' ∧ (∀ k, F' k → F k ∨ w.heap.size ≤ k) ∧ Chg F w w' := by
  obtain ⟨b, rfl, hb, h1, h2⟩ := h
  cases o with
  | none =>
    refine (accept_closed b x w h2).mono ?_
    rintro e w' ⟨rfl, g1, g2⟩
    exact ⟨F, T, rfl, ⟨b, rfl, hb, fun k hk => Nat.lt_of_lt_of_le (h1 k hk) g2.size, g1⟩, .inl ⟨rfl, rfl⟩, fun k hk => .inl hk, g2.mono (fun k hk => by rw [hk]; exact hb)⟩
  | some s =>
    obtain ⟨h3, E, B, V, vk, vb, Q, ks, h4, h5, h6, h7, h8, h9, h10⟩ := h2
    obtain ⟨t1, t2, t3, t4, t5⟩ := accept_tie h6 h5 x hx
    have hsnd := sound_accept h10 (h6.fine h5) x
    refine (accept_open h3 h4 h5 (fun i hi => (h6.eps i hi).1) h8 hTl x hx).mono ?_
    rintro e w' ⟨rfl, g1, V', vk', vb', g2, g3, g4, g5, g6⟩
    refine ⟨fun k => F k ∨ (w.heap.size ≤ k ∧ k < w'.heap.size), _, by simp only [accept?]; rw [t1], ⟨b, rfl, .inl hb, fun k hk => ?_, g1, _, _, V', vk', vb', _, _, g2, t3, t2, fun k hk => ?_, g3, fun k hk => ?_, hsnd⟩, ?_, fun k hk => hk.imp id (fun h => h.1), g6.mono (fun k hk => ?_)⟩
    · rcases hk with hk | hk
      · exact Nat.lt_of_lt_of_le (h1 k hk) g6.size
      · exact hk.2
    · have hlt : k < w'.heap.size := by
        rcases hk with ⟨i, hi, hk⟩ | hk
        · exact ((g2.rows i hi).lt k hk).2
        · exact (g2.keys.lt k hk).2
      rcases g4 k hk with h | h
      · exact .inl (h7 k h)
      · exact .inr ⟨h, hlt⟩
    · rcases g5 k hk with h | h
      · exact .inl (h9 k h)
      · exact .inr ⟨h, (g3.row.lt k hk).2⟩
    · cases hch : (accF E B Q ks x).2.isSome with
      | false =>
        refine .inl ⟨rfl, ?_⟩
        have hn : (accF E B Q ks x).2 = none := by simpa using hch
        simp only [accept?]
        rw [t5 hn]
      | true =>
        refine .inr ⟨rfl, ?_, acc_short h5 hx hch⟩
        simp only [accept?]
        exact fun e => t4 hch (Option.some.inj e)
    · rcases hk with rfl | hk | hk
      · exact hb
      · exact h7 k hk
      · exact h9 k hk

theorem relT_close {T : List UInt8} {w : World} {a : Addr} {o : Option St} {F : Nat → Prop} (h : RelT T w a o F) : Calls Tryz.prog 17 #[.pointer (some a)] w fun e w' =>
    e = .returned (.int .i64 (errno? o)) ∧ RelT T w' a none F ∧ Chg F w w' := by
  obtain ⟨b, rfl, hb, h1, h2⟩ := h
  cases o with
  | none =>
    refine (close_done h2).mono ?_
    rintro e w' ⟨rfl, g1, g2⟩
    exact ⟨rfl, ⟨b, rfl, hb, fun k hk => Nat.lt_of_lt_of_le (h1 k hk) g2.size, g1⟩, g2.mono (fun k hk => by rw [hk]; exact hb)⟩
  | some s =>
    obtain ⟨h3, E, B, V, vk, vb, Q, ks, h4, h5, h6, h7, h8, h9, h10⟩ := h2
    refine (close_open h3 h4.cells h8.cell).mono ?_
    rintro e w' ⟨rfl, g1, g2⟩
    exact ⟨rfl, ⟨b, rfl, hb, fun k hk => Nat.lt_of_lt_of_le (h1 k hk) g2.size, g1⟩, g2.mono (fun k hk => by rw [hk]; exact hb)⟩

theorem relT_state {T : List UInt8} {w : World} {a : Addr} {o : Option St} {F : Nat → Prop} (h : RelT T w a o F) : Calls Tryz.prog 15 #[.pointer (some a)] w fun e w' =>
    ∃ vs vk, e = .returned (.tuple #[.agg #[vs, vk], .int .i64 (errno? o)]) ∧ StateAt w' w.heap.size vs vk (state? o) ∧ RelT T w' a o F ∧ Chg F w w' := by
  obtain ⟨b, rfl, hb, h1, h2⟩ := h
  cases o with
  | none =>
    refine (state_closed b w h2).mono ?_
    rintro e w' ⟨rfl, g1, g2⟩
    exact ⟨_, _, rfl, ⟨⟨[], rfl, World.ownsRow_nil _ _ _ _, fun i l u hl => by simp [state?] at hl⟩, World.ownsRow_nil _ _ _ _⟩, ⟨b, rfl, hb, fun k hk => Nat.lt_of_lt_of_le (h1 k hk) g2.size, g1⟩, g2.mono (fun k hk => by rw [hk]; exact hb)⟩
  | some s =>
    obtain ⟨h3, E, B, V, vk, vb, Q, ks, h4, h5, h6, h7, h8, h9, h10⟩ := h2
    obtain ⟨S, _, hS⟩ := lanes_S h6
    refine (state_open h3 h4 (fun i hi => by have := h5.ql i hi; omega) h5.kl hS h8).mono ?_
    rintro e w' ⟨vs, vk', U, rfl, g1, g2, g3, _, g4, g5, g7, g6⟩
    refine ⟨vs, vk', rfl, ⟨⟨[U 0, U 1, U 2, U 3], ?_, ?_, fun i l u hl hu => ?_⟩, ?_⟩, ⟨b, rfl, hb, fun k hk => Nat.lt_of_lt_of_le (h1 k hk) g6.size, g4, E, B, V, vk, vb, Q, ks, g5, h5, h6, h7, g7, h9, h10⟩, g6.mono (fun k hk => by rw [hk]; exact hb)⟩
    · simp [state?, h6.four]
    · obtain ⟨l0, c0, p0⟩ := h6.lane 0 (by omega)
      obtain ⟨l1, c1, p1⟩ := h6.lane 1 (by omega)
      obtain ⟨l2, c2, p2⟩ := h6.lane 2 (by omega)
      obtain ⟨l3, c3, p3⟩ := h6.lane 3 (by omega)
      have h4' := h6.four
      simp only [state?]
      match hs : s.lanes, h4' with
      | [x0, x1, x2, x3], _ =>
        rw [hs] at c0 c1 c2 c3
        simp at c0 c1 c2 c3
        subst c0 c1 c2 c3
        simpa [sessCells, sessU, p0.ep, p0.ba, p1.ep, p1.ba, p2.ep, p2.ba, p3.ep, p3.ba] using g1
    · have hi : i < 4 := by
        have := (List.getElem?_eq_some_iff.1 hl).1
        simp only [state?] at this
        rw [h6.four] at this
        exact this
      have hu' : u = U i := by
        rcases (by omega : i = 0 ∨ i = 1 ∨ i = 2 ∨ i = 3) with rfl | rfl | rfl | rfl <;> simp at hu <;> exact hu.symm
      obtain ⟨l', c, p⟩ := h6.lane i hi
      have : l' = l := by simp only [state?] at hl; rw [hl] at c; exact (Option.some.inj c).symm
      subst this
      have := g2 i hi
      rw [nums_tie p.up p.perm, p.perm.length_eq] at this
      rw [hu']
      unfold ints' at this
      rw [List.map_map] at this
      exact this
    · simp only [state?]
      rw [h6.keys]; exact g3

theorem relT_fine {T : List UInt8} {w : World} {a : Addr} {s : St} {F : Nat → Prop} (h : RelT T w a (some s) F) : s.fine := by
  obtain ⟨b, _, _, _, h⟩ := h
  obtain ⟨_, E, B, V, vk, vb, Q, ks, _, h5, h6, _⟩ := h
  exact h6.fine h5

theorem relT_good {T : List UInt8} {w : World} {a : Addr} {s : St} {F : Nat → Prop} (h : RelT T w a (some s) F) : s.good := by
  obtain ⟨b, _, _, _, h⟩ := h
  obtain ⟨_, E, B, V, vk, vb, Q, ks, _, h5, h6, _⟩ := h
  refine ⟨by rw [h6.keys]; exact h5.kl, by rw [h6.keys]; exact h5.led.sorted, fun l hl => ?_⟩
  obtain ⟨i, hi, e⟩ := List.getElem_of_mem hl
  have hi4 : i < 4 := by rw [← h6.four]; exact hi
  obtain ⟨l', g1, g2⟩ := h6.lane i hi4
  have : l' = l := by rw [List.getElem?_eq_getElem hi, e] at g1; exact (Option.some.inj g1).symm
  subst this
  exact ⟨g2.up, fun y hy => by rw [g2.ba]; exact g2.win y hy⟩

theorem relT_puts {T : List UInt8} {w : World} {a : Addr} {o : Option St} {F : Nat → Prop} (h : RelT T w a o F) : Calls Tryz.prog 19 #[.pointer (some a)] w fun e w' =>
    ∃ vp, e = .returned (.tuple #[vp, .int .i64 (errno? o)]) ∧ w'.ownsRow w.heap.size 68 3 vp (puts? o).length (putCells (puts? o)) ∧ RelT T w' a o F ∧ Chg F w w' := by
  obtain ⟨b, rfl, hb, h1, h2⟩ := h
  cases o with
  | none =>
    refine (puts_closed b w h2).mono ?_
    rintro e w' ⟨rfl, g1, g2⟩
    exact ⟨_, rfl, World.ownsRow_nil _ _ _ _, ⟨b, rfl, hb, fun k hk => Nat.lt_of_lt_of_le (h1 k hk) g2.size, g1⟩, g2.mono (fun k hk => by rw [hk]; exact hb)⟩
  | some s =>
    obtain ⟨h3, E, B, V, vk, vb, Q, ks, h4, h5, h6, h7, h8, h9, h10⟩ := h2
    refine (puts_open h3 h4 h5.kl h8).mono ?_
    rintro e w' ⟨vp, rfl, g1, g2, g3, g5, g4⟩
    refine ⟨vp, rfl, ?_, ⟨b, rfl, hb, fun k hk => Nat.lt_of_lt_of_le (h1 k hk) g4.size, g2, E, B, V, vk, vb, Q, ks, g3, h5, h6, h7, g5, h9, h10⟩, g4.mono (fun k hk => by rw [hk]; exact hb)⟩
    simp only [puts?]
    rw [h6.keys]
    exact g1

/-- What is written down of an Answer. -/
def tapeAnsw (T : List UInt8) (key : ByteArray) (n : Int) (o o' : Option St) (T' : List UInt8) : Prop := (T' = T ∧ o' = o) ∨ (T' = T ++ encAns key n ∧ o' ≠ o ∧ (encAns key n).length ≤ 32)

theorem ans_ch {E B : Nat → Int} {Q : Nat → List Wt} {ks : List Ky} {s : St} (h : Ties E B Q ks s) (hf : FlowFit E B Q ks) (key : ByteArray) (n : Int) (hn : inInt n) :
    (ansCh ks key n = false → (Go.Proofs.YthedkdbgfdjlkaaGreat.answer s key n).2 = s) ∧ (ansCh ks key n = true → (Go.Proofs.YthedkdbgfdjlkaaGreat.answer s key n).2 ≠ s ∧ (encAns key n).length ≤ 32) := by
  unfold ansCh Go.Proofs.YthedkdbgfdjlkaaGreat.answer
  rw [h.keys]
  by_cases hok : okKey key = false
  · rw [if_pos hok, if_pos hok]
    exact ⟨fun _ => rfl, fun hh => by cases hh⟩
  · rw [if_neg hok, if_neg hok]
    have hok' : okKey key = true := by simpa using hok
    cases hk : findKy key ks with
    | none => exact ⟨fun _ => rfl, fun hh => by cases hh⟩
    | some k =>
      simp only
      by_cases hb : n < 0 ∨ k.count < n
      · rw [if_pos hb, if_pos hb]
        exact ⟨fun _ => rfl, fun hh => by cases hh⟩
      · rw [if_neg hb, if_neg hb]
        rcases hold_same key n hk with ⟨h1, h2⟩ | h2
        · refine ⟨fun _ => by simp only; rw [h2, ← h.keys], fun hh => ?_⟩
          simp at hh
          omega
        · refine ⟨fun hh => ?_, fun _ => ⟨fun e => ?_, ?_⟩⟩
          · simp at hh
            have h3 : holdKy key n ks = ks := by
              have : ∀ {l : List Ky} {k : Ky}, findKy key l = some k → n ≤ k.held → holdKy key n l = l := by
                intro l
                induction l with
                | nil => intro k hk; simp [findKy] at hk
                | cons y r ih =>
                  intro k hk hle
                  unfold findKy at hk
                  unfold holdKy
                  split at hk
                  · rename_i hy
                    obtain rfl : y = k := by simpa using hk
                    rw [if_pos hy, show max y.held n = y.held by omega]
                  · rename_i hy
                    rw [if_neg hy, ih hk hle]
              exact this hk hh
            rw [h3] at h2
            omega
          · have := congrArg St.keys e
            simp only at this
            rw [this, h.keys] at h2
            omega
          · have hm := findKy_in hk
            have hq0 := qLens_nonneg Q 4
            have htot := hf.led.total
            have hc := (count_le hf.led.count k hm.1).1
            have l1 := encKey_len hok'
            have l2 := encInt_len2 (z := n) (by omega)
            unfold encAns
            simp only [List.length_cons, List.length_append]
            omega

theorem relT_answer {T : List UInt8} {w : World} {a : Addr} {o : Option St} {F : Nat → Prop} (key : ByteArray) (n : Int) (h : RelT T w a o F) (hTl : T.length ≤ 140737488330000) (hkey : key.size ≤ maxLen) (hn : inInt n) : Calls Tryz.prog 21 #[.pointer (some a), .string key, .int .i64 n] w fun e w' =>
    ∃ F' T', e = .returned (.int .i64 (answer? o key n).1) ∧ RelT T' w' a (answer? o key n).2 F' ∧ tapeAnsw T key n o (answer? o key n).2 T' ∧ (∀ k, F' k → F k ∨ w.heap.size ≤ k) ∧ Chg F w w' := by
  obtain ⟨b, rfl, hb, h1, h2⟩ := h
  cases o with
  | none =>
    refine (answer_closed b key n w h2).mono ?_
    rintro e w' ⟨rfl, g1, g2⟩
    exact ⟨F, T, rfl, ⟨b, rfl, hb, fun k hk => Nat.lt_of_lt_of_le (h1 k hk) g2.size, g1⟩, .inl ⟨rfl, rfl⟩, fun k hk => .inl hk, g2.mono (fun k hk => by rw [hk]; exact hb)⟩
  | some s =>
    obtain ⟨h3, E, B, V, vk, vb, Q, ks, h4, h5, h6, h7, h8, h9, h10⟩ := h2
    obtain ⟨t1, t2, t3⟩ := ansF_fit h6 h5 key n
    obtain ⟨u1, u2⟩ := ans_ch h6 h5 key n hn
    have hq0 := qLens_nonneg Q 4
    have htot := h5.led.total
    have hsnd := sound_answer h10 key n
    refine (answer_open h3 h4 h5.led.sorted h5.kl (fun k hk => ?_) h8 hTl key n hkey hn).mono ?_
    · have h8 := h6.held k hk
      have h9 := (count_le h5.led.count k hk).1
      omega
    · rintro e w' ⟨rfl, g1, g2, ⟨vb', g4, g5⟩, g3⟩
      refine ⟨fun k => F k ∨ (w.heap.size ≤ k ∧ k < w'.heap.size), _, by simp only [answer?]; rw [t1], ⟨b, rfl, .inl hb, fun k hk => ?_, g1, E, B, V, vk, vb', Q, _, g2, t2, t3, fun k hk => .inl (h7 k hk), g4, fun k hk => ?_, hsnd⟩, ?_, fun k hk => hk.imp id (fun h => h.1), g3.mono (fun k hk => ?_)⟩
      · rcases hk with hk | hk
        · exact Nat.lt_of_lt_of_le (h1 k hk) g3.size
        · exact hk.2
      · rcases g5 k hk with h | h
        · exact .inl (h9 k h)
        · exact .inr ⟨h, (g4.row.lt k hk).2⟩
      · cases hch : ansCh ks key n with
        | false =>
          refine .inl ⟨rfl, ?_⟩
          simp only [answer?]
          rw [u1 hch]
        | true =>
          refine .inr ⟨rfl, ?_, (u2 hch).2⟩
          simp only [answer?]
          exact fun e => (u2 hch).1 (Option.some.inj e)
      · rcases hk with rfl | hk | hk
        · exact hb
        · exact h7 k (.inr hk)
        · exact h9 k hk

end Go.Proofs.YthedkdbgfdjlkaaGreat

/- Shrink; the program's calls, counted by the length of the bytes. -/
namespace Go.Proofs.YthedkdbgfdjlkaaGreat
set_option linter.unusedVariables false
set_option linter.unusedSimpArgs false
open Go.RowKit Go.Lib Go.Conc.Locks

section
variable {E B : Nat → Int} {Q : Nat → List Wt} {ks : List Ky} {s : St}

theorem keys_plain (h : Ties E B Q ks s) (hf : FlowFit E B Q ks) (hs : s.sound) : ∀ k ∈ ks, k.plain ∧ okKey k.name = true ∧ k.count ≤ 1000 ∧ k.fold ≤ 4294967295 ∧ k.held ≤ 1000 := by
  intro k hk
  have hq0 := qLens_nonneg Q 4
  have htot := hf.led.total
  have hc := (count_le hf.led.count k hk).1
  have hh := h.held k hk
  have hfo := hf.led.fold k hk
  have hn : okKey k.name = true := hs.kname k (by rw [h.keys]; exact hk)
  have hsz := okKey_size hn
  exact ⟨⟨by omega, by omega, by omega, by omega⟩, hn, by omega, by omega, by omega⟩

theorem recs_plain (h : Ties E B Q ks s) (hf : FlowFit E B Q ks) (hs : s.sound) : ∀ x ∈ s.recs, x.plain ∧ x.session ≤ 127 ∧ x.epoch ≤ 9223372036854775807 ∧ x.number ≤ 16000 ∧ okKey x.key = true ∧ x.value ≤ 4294967295 := by
  intro x hx
  obtain ⟨j, l, y, h1, h2, h3⟩ := mem_recsFrom hx
  have hj : j < 4 := by rw [← h.four]; exact (List.getElem?_eq_some_iff.1 h1).1
  obtain ⟨l', g1, g2⟩ := h.lane j hj
  have : l' = l := by rw [h1] at g1; exact (Option.some.inj g1).symm
  subst this
  have hq0 := qLens_nonneg Q 4
  have htot := hf.led.total
  have he := h.eps j hj
  have hb := hf.ba j hj
  have hw := g2.win y h2
  obtain ⟨w1, w2, w3⟩ := hs.wt l' (List.mem_of_getElem? h1) y h2
  have hsz := okKey_size w1
  have hep := g2.ep
  rw [h3]
  refine ⟨⟨?_, ?_, ?_, ?_, ?_⟩, ?_, ?_, ?_, w1, ?_⟩ <;> simp only <;> omega

theorem head_short (h : Ties E B Q ks s) (hf : FlowFit E B Q ks) (hs : s.sound) : (encHead s).length ≤ 512 := by
  have hk := keys_plain h hf hs
  have hr := recs_plain h hf hs
  have hq0 := qLens_nonneg Q 4
  have htot := hf.led.total
  have l1 : (s.lanes.flatMap encSess).length ≤ 4 * 11 := by
    have := flat_len encSess 11 (l := s.lanes) (fun l hl => by
      have hfi := (h.fine hf).lane l hl
      have a1 := encInt_len9 (z := l.epoch) (by omega)
      have a2 := encInt_len2 (z := l.base) (by omega)
      unfold encSess encInts
      simp only [List.flatMap_cons, List.flatMap_nil, List.append_nil, List.length_append]
      omega)
    rw [h.four] at this
    exact this
  have l2 : (s.keys.flatMap encKy).length ≤ 4 * 16 := by
    have h1 := flat_len encKy 16 (l := s.keys) (fun k hk' => by
      rw [h.keys] at hk'
      obtain ⟨_, b1, b2, b3, b4⟩ := hk k hk'
      have a1 := encKey_len b1
      have a2 := encInt_len2 (z := k.count) (by omega)
      have a3 := encInt_len5 (z := k.fold) (by omega)
      have a4 := encInt_len2 (z := k.held) (by omega)
      unfold encKy encInts
      simp only [List.flatMap_cons, List.flatMap_nil, List.append_nil, List.length_append]
      omega)
    have h2 : s.keys.length ≤ 4 := by rw [h.keys]; exact hf.kl
    exact Nat.le_trans h1 (Nat.mul_le_mul_right _ h2)
  have l3 : s.recs.length ≤ 12 := by
    obtain ⟨S, hS1, hS⟩ := lanes_S h
    have hr := (recsU_lanes h hS1).2
    have : (recsU E S 4).length ≤ 12 := by
      have e : ∀ i, i < 4 → (S i).length ≤ 3 := fun i hi => by rw [(hS i hi).2.length_eq.symm]; exact hf.ql i hi
      have e0 := e 0 (by omega); have e1 := e 1 (by omega); have e2 := e 2 (by omega); have e3 := e 3 (by omega)
      simp [recsU]; omega
    rw [hr] at this
    exact this
  have l4 : (s.recs.flatMap encRec).length ≤ 12 * 24 := by
    have h1 := flat_len encRec 24 (l := s.recs) (fun x hx => by
      obtain ⟨_, b1, b2, b3, b4, b5⟩ := hr x hx
      exact encRec_len b1 b2 b3 b4 b5)
    exact Nat.le_trans h1 (Nat.mul_le_mul_right _ l3)
  have l5 := encInt_len1 (z := (s.keys.length : Int)) (by rw [h.keys]; have := hf.kl; omega)
  have l6 := encInt_len1 (z := (s.recs.length : Int)) (by omega)
  have l7 : markB.length = 8 := rfl
  unfold encHead
  simp only [List.length_append]
  omega
end

def tapeShr (T : List UInt8) : Option St → List UInt8
  | none => T
  | some s => encHead s

theorem relT_shrink {T : List UInt8} {w : World} {a : Addr} {o : Option St} {F : Nat → Prop} (h : RelT T w a o F) : Calls Tryz.prog 30 #[.pointer (some a)] w fun e w' =>
    ∃ F', e = .returned (.int .i64 (errno? o)) ∧ RelT (tapeShr T o) w' a o F' ∧ (∀ k, F' k → F k ∨ w.heap.size ≤ k) ∧ Chg F w w' := by
  obtain ⟨b, rfl, hb, h1, h2⟩ := h
  cases o with
  | none =>
    refine (shrink_closed b w h2).mono ?_
    rintro e w' ⟨rfl, g1, g2⟩
    exact ⟨F, rfl, ⟨b, rfl, hb, fun k hk => Nat.lt_of_lt_of_le (h1 k hk) g2.size, g1⟩, fun k hk => .inl hk, g2.mono (fun k hk => by rw [hk]; exact hb)⟩
  | some s =>
    obtain ⟨h3, E, B, V, vk, vb, Q, ks, h4, h5, h6, h7, h8, h9, h10⟩ := h2
    obtain ⟨S, hS1, hS⟩ := lanes_S h6
    obtain ⟨e1, e2⟩ := recsU_lanes h6 hS1
    have hq0 := qLens_nonneg Q 4
    have htot := h5.led.total
    refine (shrink_open h3 h4 h8 (fun i hi => by have := h5.ql i hi; omega) h5.kl hS h6.eps (fun i hi => by have := h5.ba i hi; omega) (fun k hk => (keys_plain h6 h5 h10 k hk).1) (fun x hx => (recs_plain h6 h5 h10 x (by rw [← e2]; exact hx)).1)).mono ?_
    rintro e w' ⟨rfl, g1, g2, ⟨vb', g3, g4⟩, g5⟩
    rw [e1] at g3
    refine ⟨fun k => F k ∨ (w.heap.size ≤ k ∧ k < w'.heap.size), rfl, ⟨b, rfl, .inl hb, fun k hk => ?_, g1, E, B, V, vk, vb', Q, ks, g2, h5, h6, fun k hk => .inl (h7 k hk), g3, fun k hk => .inr ⟨g4 k hk, (g3.row.lt k hk).2⟩, h10⟩, fun k hk => hk.imp id (fun h => h.1), g5.mono (fun k hk => by rw [hk]; exact hb)⟩
    rcases hk with hk | hk
    · exact Nat.lt_of_lt_of_le (h1 k hk) g5.size
    · exact hk.2

theorem relT_short {T : List UInt8} {w : World} {a : Addr} {s : St} {F : Nat → Prop} (h : RelT T w a (some s) F) : (encHead s).length ≤ 512 := by
  obtain ⟨b, _, _, _, h⟩ := h
  obtain ⟨_, E, B, V, vk, vb, Q, ks, _, h5, h6, _, _, _, h10⟩ := h
  exact head_short h6 h5 h10

theorem init_short : (encHead St.init).length ≤ 512 := by
  have e : (encHead St.init).length = 18 := by
    simp [encHead, St.init, Ln.init, St.recs, recsFrom, encSess, encInts, encInt, markB, encNum_small]
  omega

theorem apiN : ApiN RelN := by
  refine ⟨fun ⟨T, _, h⟩ hk => relT_lt h hk, fun ⟨T, h1, h⟩ hs => ⟨T, h1, relT_stable h hs⟩, fun ⟨T, h1, h⟩ hm => ⟨T, by omega, h⟩, fun ⟨T, _, h⟩ => relT_fine h, fun w => ?_, fun x hR hn hx => ?_, fun hR => ?_, fun hR => ?_⟩
  · exact (relT_new w).mono fun e w' ⟨a, F, h1, h2, h3, h4⟩ => ⟨a, F, h1, ⟨_, init_short, h2⟩, h3, h4⟩
  · obtain ⟨T, hT, h⟩ := hR
    refine (relT_accept x h (by unfold roomy at hn; omega) hx).mono ?_
    rintro e w' ⟨F', T', h1, h2, h3, h4, h5⟩
    rcases h3 with ⟨rfl, e1⟩ | ⟨rfl, e1, e2⟩
    · exact ⟨F', _, h1, ⟨_, hT, h2⟩, h4, h5, by omega, fun _ => rfl⟩
    · exact ⟨F', _, h1, ⟨_, by rw [List.length_append]; exact Nat.add_le_add hT e2, h2⟩, h4, h5, Nat.le_refl _, fun e => absurd e e1⟩
  · obtain ⟨T, hT, h⟩ := hR
    refine (relT_state h).mono ?_
    rintro e w' ⟨vs, vk, h1, h2, h3, h4⟩
    exact ⟨vs, vk, h1, h2, ⟨T, hT, h3⟩, h4⟩
  · obtain ⟨T, hT, h⟩ := hR
    refine (relT_close h).mono ?_
    rintro e w' ⟨h1, h2, h3⟩
    exact ⟨h1, ⟨T, hT, h2⟩, h3⟩

theorem apiSN : ApiSN RelN := by
  refine ⟨fun hR => ?_, fun key n hR hm hk hn => ?_⟩
  · obtain ⟨T, hT, h⟩ := hR
    refine (relT_puts h).mono ?_
    rintro e w' ⟨vp, h1, h2, h3, h4⟩
    exact ⟨vp, h1, h2, ⟨T, hT, h3⟩, h4⟩
  · obtain ⟨T, hT, h⟩ := hR
    refine (relT_answer key n h (by unfold roomy at hm; omega) hk hn).mono ?_
    rintro e w' ⟨F', T', h1, h2, h3, h4, h5⟩
    rcases h3 with ⟨rfl, e1⟩ | ⟨rfl, e1, e2⟩
    · exact ⟨F', _, h1, ⟨_, hT, h2⟩, h4, h5, by omega, fun _ => rfl⟩
    · exact ⟨F', _, h1, ⟨_, by rw [List.length_append]; exact Nat.add_le_add hT e2, h2⟩, h4, h5, Nat.le_refl _, fun e => absurd e e1⟩

theorem apiB : ApiB RelN := by
  refine ⟨fun ⟨T, _, h⟩ => relT_good h, fun key n hR hm hk hn => ?_, fun hR => ?_⟩
  · obtain ⟨T, hT, h⟩ := hR
    refine (relT_answer key n h (by unfold roomy at hm; omega) hk hn).mono ?_
    rintro e w' ⟨F', T', h1, h2, h3, h4, h5⟩
    obtain ⟨g1, g2⟩ := answer_but _ key n
    refine ⟨F', _, _, h1, ⟨T', ?_, h2⟩, g1, g2, h4, h5⟩
    rcases h3 with ⟨rfl, _⟩ | ⟨rfl, _, e2⟩
    · omega
    · rw [List.length_append]; omega
  · obtain ⟨T, hT, h⟩ := hR
    have hs := relT_short h
    refine (relT_shrink h).mono ?_
    rintro e w' ⟨F', h1, h2, h3, h4⟩
    exact ⟨F', _, h1, ⟨_, hs, h2⟩, h3, h4⟩

end Go.Proofs.YthedkdbgfdjlkaaGreat

/- Passed, THE PURE PART: records that come in their order; a sink that some puts reach. -/
namespace Go.Proofs.YthedkdbgfdjlkaaGreat
set_option linter.unusedVariables false
set_option linter.unusedSimpArgs false
open Go.RowKit

/-- What is kept, but for Held. -/
def Ky.un (k : Ky) : Ky := ⟨k.name, k.count, k.fold, 0⟩

theorem un_takeKy (name : ByteArray) (val : Int) : ∀ ks : List Ky, (takeKy name val ks).map Ky.un = takeKy name val (ks.map Ky.un)
  | [] => rfl
  | k :: r => by
    have ih := un_takeKy name val r
    unfold takeKy
    simp only [List.map_cons]
    have e : k.un.name = k.name := rfl
    rw [e]
    split
    · rfl
    · split
      · rfl
      · simp [ih]

theorem counts_un : ∀ ks : List Ky, counts (ks.map Ky.un) = counts ks
  | [] => rfl
  | k :: r => by simp [counts, counts_un r, Ky.un]

theorem names_un (ks : List Ky) : (ks.map Ky.un).map (·.name) = ks.map (·.name) := by
  rw [List.map_map]; rfl

/-- The relay behind the first i of them. -/
structure PInv (all : List Rec) (i : Nat) (s : St) : Prop where
  four : s.lanes.length = 4
  lane : ∀ j, j < 4 → s.lanes[j]? = some ⟨0, (ofS (all.take i) j).length, []⟩
  keys : s.keys.map Ky.un = keysOf (all.take i) []

theorem PInv.init (all : List Rec) : PInv all 0 St.init := by
  refine ⟨rfl, fun j hj => ?_, by simp [St.init, keysOf]⟩
  rcases (by omega : j = 0 ∨ j = 1 ∨ j = 2 ∨ j = 3) with rfl | rfl | rfl | rfl <;> simp [St.init, Ln.init, ofS]

theorem PInv.waitless {all : List Rec} {i : Nat} {s : St} (h : PInv all i s) : ∀ l ∈ s.lanes, l.ws = [] := by
  intro l hl
  obtain ⟨j, hj, e⟩ := List.getElem_of_mem hl
  have := h.lane j (by rw [← h.four]; exact hj)
  rw [List.getElem?_eq_getElem hj, e] at this
  rw [Option.some.inj this]

theorem waits_none : ∀ ls : List Ln, (∀ l ∈ ls, l.ws = []) → waits ls = 0
  | [], _ => rfl
  | l :: r, h => by
    have h1 := h l (by simp)
    have h2 := waits_none r (fun x hx => h x (by simp [hx]))
    simp [waits, h1, h2]

theorem flat_none : ∀ ls : List Ln, (∀ l ∈ ls, l.ws = []) → ls.flatMap (fun l => l.ws.map (·.key)) = []
  | [], _ => rfl
  | l :: r, h => by
    have h1 := h l (by simp)
    have h2 := flat_none r (fun x hx => h x (by simp [hx]))
    simp only [List.flatMap_cons, h2, h1]
    rfl

theorem PInv.counts {all : List Rec} {i : Nat} {s : St} (h : PInv all i s) (hi : i ≤ all.length) : counts s.keys = i := by
  rw [← counts_un, h.keys, counts_keysOf]
  simp [Go.Proofs.YthedkdbgfdjlkaaGreat.counts]
  omega

theorem PInv.key {all : List Rec} {i : Nat} {s : St} (h : PInv all i s) (hn : Numbered all) {k : Ky} (hk : k ∈ s.keys) : k.name ∈ names4 ∧ (k.count, k.fold) = tally k.name (all.take i) := by
  have hu : k.un ∈ keysOf (all.take i) [] := by rw [← h.keys]; exact List.mem_map.2 ⟨k, hk, rfl⟩
  refine ⟨?_, (keysOf_tally (all.take i)).2.1 k.un hu⟩
  rcases keysOf_names _ _ _ hu with ⟨z, hz, _⟩ | ⟨x, hx, e⟩
  · simp at hz
  · have : x.key = k.name := e
    rw [← this]
    exact (hn.each x (List.mem_of_mem_take hx)).2.2.2.1

theorem PInv.there {all : List Rec} {i : Nat} {s : St} (h : PInv all i s) {name : ByteArray} (ht : 1 ≤ (tally name (all.take i)).1) : ∃ k ∈ s.keys, k.name = name := by
  have hx : ∃ x ∈ all.take i, x.key = name := by
    by_cases hx : ∃ x ∈ all.take i, x.key = name
    · exact hx
    · have h0 : tally name (all.take i) = (0, 0) := tally_none _ _ _ (fun x hx' e => hx ⟨x, hx', e⟩)
      rw [h0] at ht
      simp at ht
  obtain ⟨x, hx, e⟩ := hx
  obtain ⟨k, hk, e2⟩ := (keysOf_tally (all.take i)).2.2 x hx
  rw [← h.keys] at hk
  obtain ⟨k', hk', rfl⟩ := List.mem_map.1 hk
  exact ⟨k', hk', (show k'.name = x.key from e2).trans e⟩

theorem PInv.sorted {all : List Rec} {i : Nat} {s : St} (h : PInv all i s) : Sorted s.keys := by
  have := (keysOf_tally (all.take i)).1
  rw [← h.keys] at this
  exact (List.pairwise_map.1 this)

theorem PInv.apart {all : List Rec} {i : Nat} {s : St} (h : PInv all i s) : (s.keys.map (·.name)).Nodup := by
  have := h.sorted
  unfold List.Nodup
  rw [List.pairwise_map]
  refine this.imp fun {a b} hab e => ?_
  rw [e, less_irrefl] at hab
  cases hab

/-- The next one is taken at once. -/
theorem PInv.accept {all : List Rec} {i : Nat} {s : St} (h : PInv all i s) (hn : Numbered all) {x : Rec} (hx : all[i]? = some x) :
    (accept s x).1 = (x.number + 1, 0) ∧ (accept s x).2.keys = takeKy x.key x.value s.keys ∧ PInv all (i + 1) (accept s x).2 := by
  have hm := List.mem_of_getElem? hx
  have hlt := (List.getElem?_eq_some_iff.1 hx).1
  obtain ⟨e1, e2, e3, e4, e5, e6⟩ := hn.each x hm
  obtain ⟨sn, hsn⟩ : ∃ sn : Nat, x.session = sn := ⟨x.session.toNat, by omega⟩
  have hs4 : sn < 4 := by omega
  have hl := h.lane sn hs4
  have hnum := numbered_at hn hx hsn
  have hw := h.waitless
  have hfew := hn.few
  have hcn := h.counts (by omega)
  have hset : s.lanes.set sn ⟨0, (ofS (all.take i) sn).length, []⟩ = s.lanes := by
    obtain ⟨hlen, e⟩ := List.getElem?_eq_some_iff.1 hl
    rw [← e]; exact List.set_getElem_self hlen
  have ha : Go.Proofs.YthedkdbgfdjlkaaGreat.accept s x = ((x.number + 1, 0), ⟨s.lanes.set sn ⟨0, x.number + 1, []⟩, takeKy x.key x.value s.keys⟩) := by
    unfold Go.Proofs.YthedkdbgfdjlkaaGreat.accept
    rw [if_neg (by omega), if_neg (by rw [okKey_four e4]; simp; omega)]
    have : x.session.toNat = sn := by omega
    rw [this, hl]
    simp only
    unfold acceptIn
    have ht : (⟨0, (ofS (all.take i) sn).length, []⟩ : Ln).turned x.epoch = ⟨0, (ofS (all.take i) sn).length, []⟩ := by
      unfold Ln.turned
      rw [if_neg (by rw [e3]; simp)]
    simp only [ht, hset]
    have hnm : ∀ k ∈ (⟨s.lanes, s.keys⟩ : St).names, k ∈ names4 := fun k hk => by
      unfold St.names at hk
      simp only [flat_none _ hw, List.append_nil] at hk
      obtain ⟨y, hy, rfl⟩ := List.mem_map.1 hk
      exact (h.key hn hy).1
    have hrec : (⟨s.lanes, s.keys⟩ : St).records < 1000 := by
      unfold St.records
      simp only [waits_none _ hw, hcn]
      omega
    rw [if_neg (by rw [e3]; simp), if_neg (by omega), if_neg (by simp; omega), if_neg (names_room e4 hnm), if_neg (by omega)]
    simp only [putW, drainW]
    rw [if_pos hnum, ← hnum]
  rw [ha]
  refine ⟨rfl, rfl, ?_, fun j hj => ?_, ?_⟩
  · simpa using h.four
  · rw [ofS_take_next hx j]
    by_cases e : sn = j
    · subst e
      simp only
      rw [List.getElem?_set_self (by rw [h.four]; exact hs4), if_pos hsn, hnum]
      simp
    · simp only
      rw [List.getElem?_set_ne e, if_neg (by omega), h.lane j hj]
      simp
  · simp only
    rw [un_takeKy, h.keys]
    have e := (List.getElem?_eq_some_iff.1 hx).2
    rw [List.take_succ_eq_append_getElem hlt, e, keysOf_append]
    rfl

/-- What a key's Held is behind an Accept. -/
theorem takeKy_held (name : ByteArray) (val : Int) {ks : List Ky} (hs : Sorted ks) : ∀ k ∈ takeKy name val ks, k.held = 0 ∨ ∃ y ∈ ks, y.name = k.name ∧ y.held = k.held := by
  intro k hk
  rcases takeKy_cases name val hs k hk with ⟨h1, _⟩ | ⟨y, h1, _, h3⟩ | ⟨h1, _⟩
  · exact .inr ⟨k, h1, rfl, rfl⟩
  · exact .inr ⟨y, h1, by rw [h3]; rfl, by rw [h3]; rfl⟩
  · exact .inl (by rw [h1]; rfl)

/-- The sink. -/
structure SInv (all : List Rec) (i : Nat) (ks : List Ky) (L : List Pt) : Prop where
  apart : (L.map (·.key)).Nodup
  each : ∀ p ∈ L, 1 ≤ p.token ∧ ∃ j, j ≤ i ∧ (p.token, p.value) = tally p.key (all.take j)
  held : ∀ k ∈ ks, 0 < k.held → ∃ p ∈ L, p.key = k.name ∧ k.held ≤ p.token

theorem SInv.nil (all : List Rec) : SInv all 0 [] [] := ⟨by simp, by simp, by simp⟩

theorem tally_mono (name : ByteArray) (all : List Rec) {j i : Nat} (h : j ≤ i) : (tally name (all.take j)).1 ≤ (tally name (all.take i)).1 := by
  have e : (all.take i).take j = all.take j := by rw [List.take_take]; congr 1; omega
  have := (tally_take_le name (all.take i) j).2.1
  rw [e] at this
  exact this

theorem SInv.accept {all : List Rec} {i : Nat} {ks : List Ky} {L : List Pt} (h : SInv all i ks L) (hs : Sorted ks) (name : ByteArray) (val : Int) : SInv all (i + 1) (takeKy name val ks) L := by
  refine ⟨h.apart, fun p hp => ?_, fun k hk h0 => ?_⟩
  · obtain ⟨h1, j, h2, h3⟩ := h.each p hp
    exact ⟨h1, j, by omega, h3⟩
  · rcases takeKy_held name val hs k hk with e | ⟨y, hy, e1, e2⟩
    · omega
    · obtain ⟨p, hp, e3, h4⟩ := h.held y hy (by omega)
      exact ⟨p, hp, by rw [e3, e1], by omega⟩

/-- What a put makes of the sink: its list, and the token that it holds then. -/
def sinkPut (p : Pt) : List Pt → List Pt
  | [] => [p]
  | q :: r => if q.key = p.key then (if q.token < p.token then p :: r else q :: r) else q :: sinkPut p r

theorem sinkPut_mem (p : Pt) : ∀ (L : List Pt) (q : Pt), q ∈ sinkPut p L → q = p ∨ q ∈ L
  | [], q, h => by simp [sinkPut] at h; exact .inl h
  | x :: r, q, h => by
    unfold sinkPut at h
    split at h
    · split at h
      · rcases List.mem_cons.1 h with h | h
        · exact .inl h
        · exact .inr (by simp [h])
      · exact .inr h
    · rcases List.mem_cons.1 h with h | h
      · exact .inr (by simp [h])
      · rcases sinkPut_mem p r q h with h | h
        · exact .inl h
        · exact .inr (by simp [h])

theorem sinkPut_keys (p : Pt) : ∀ (L : List Pt), (sinkPut p L).map (·.key) = L.map (·.key) ∨ (p.key ∉ L.map (·.key) ∧ (sinkPut p L).map (·.key) = L.map (·.key) ++ [p.key])
  | [] => .inr ⟨by simp, by simp [sinkPut]⟩
  | x :: r => by
    have ih := sinkPut_keys p r
    unfold sinkPut
    by_cases e : x.key = p.key
    · rw [if_pos e]
      left
      split <;> simp [e]
    · rw [if_neg e]
      simp only [List.map_cons]
      rcases ih with ih | ⟨h1, h2⟩
      · exact .inl (by rw [ih])
      · refine .inr ⟨fun h => ?_, by rw [h2]; rfl⟩
        rcases List.mem_cons.1 h with h | h
        · exact e h.symm
        · exact h1 h

theorem nodup_key {α : Type} {f : α → ByteArray} : ∀ {l : List α}, (l.map f).Nodup → ∀ a ∈ l, ∀ b ∈ l, f a = f b → a = b
  | [], _, a, ha, _, _, _ => by simp at ha
  | x :: r, h, a, ha, b, hb, e => by
    simp only [List.map_cons, List.nodup_cons] at h
    rcases List.mem_cons.1 ha with ea | ha
    · rcases List.mem_cons.1 hb with eb | hb
      · rw [ea, eb]
      · exact absurd (List.mem_map.2 ⟨b, hb, by rw [← e, ea]⟩) h.1
    · rcases List.mem_cons.1 hb with eb | hb
      · exact absurd (List.mem_map.2 ⟨a, ha, by rw [e, eb]⟩) h.1
      · exact nodup_key h.2 a ha b hb e

/-- No token falls, and the put's own is there. -/
theorem sinkPut_up (p : Pt) : ∀ (L : List Pt), (∀ q ∈ L, ∃ q' ∈ sinkPut p L, q'.key = q.key ∧ q.token ≤ q'.token) ∧ ∃ q' ∈ sinkPut p L, q'.key = p.key ∧ p.token ≤ q'.token
  | [] => ⟨by simp, p, by simp [sinkPut], rfl, by omega⟩
  | x :: r => by
    obtain ⟨h1, q', h2, h3, h4⟩ := sinkPut_up p r
    unfold sinkPut
    by_cases e : x.key = p.key
    · rw [if_pos e]
      by_cases ht : x.token < p.token
      · rw [if_pos ht]
        refine ⟨fun q hq => ?_, p, by simp, rfl, by omega⟩
        rcases List.mem_cons.1 hq with rfl | hq
        · exact ⟨p, by simp, e.symm, by omega⟩
        · exact ⟨q, by simp [hq], rfl, by omega⟩
      · rw [if_neg ht]
        exact ⟨fun q hq => ⟨q, hq, rfl, by omega⟩, x, by simp, e, by omega⟩
    · rw [if_neg e]
      refine ⟨fun q hq => ?_, q', by simp [h2], h3, h4⟩
      rcases List.mem_cons.1 hq with rfl | hq
      · exact ⟨q, by simp, rfl, by omega⟩
      · obtain ⟨q2, g1, g2, g3⟩ := h1 q hq
        exact ⟨q2, by simp [g1], g2, g3⟩

theorem SInv.put {all : List Rec} {i : Nat} {ks : List Ky} {L : List Pt} (h : SInv all i ks L) {p : Pt} (h1 : 1 ≤ p.token) (h2 : (p.token, p.value) = tally p.key (all.take i)) : SInv all i ks (sinkPut p L) := by
  refine ⟨?_, fun q hq => ?_, fun k hk h0 => ?_⟩
  · rcases sinkPut_keys p L with e | ⟨hne, e⟩
    · rw [e]; exact h.apart
    · rw [e, List.nodup_append]
      refine ⟨h.apart, by simp, fun a ha b hb e => ?_⟩
      simp at hb
      subst hb
      exact hne (by rw [← e]; exact ha)
  · rcases sinkPut_mem p L q hq with rfl | hq
    · exact ⟨h1, i, by omega, h2⟩
    · exact h.each q hq
  · obtain ⟨q, g1, g2, g3⟩ := h.held k hk h0
    obtain ⟨q', g4, g5, g6⟩ := (sinkPut_up p L).1 q g1
    exact ⟨q', g4, g5.trans g2, by omega⟩

/-- The sink's token for the key of a put is the count. -/
theorem SInv.token {all : List Rec} {i : Nat} {ks : List Ky} {L : List Pt} (h : SInv all i ks L) {q : Pt} (hq : q ∈ L) : q.token ≤ (tally q.key (all.take i)).1 := by
  obtain ⟨_, j, h1, h2⟩ := h.each q hq
  have := tally_mono q.key all h1
  have e : q.token = (tally q.key (all.take j)).1 := by rw [← h2]
  omega

theorem holdKy_mem (name : ByteArray) (n : Int) : ∀ (ks : List Ky) (k : Ky), k ∈ holdKy name n ks → k ∈ ks ∨ ∃ y ∈ ks, y.name = name ∧ k = ⟨y.name, y.count, y.fold, max y.held n⟩
  | [], k, h => by simp [holdKy] at h
  | x :: r, k, h => by
    unfold holdKy at h
    split at h
    · rename_i e
      rcases List.mem_cons.1 h with h | h
      · exact .inr ⟨x, by simp, e, h⟩
      · exact .inl (by simp [h])
    · rcases List.mem_cons.1 h with h | h
      · exact .inl (by simp [h])
      · rcases holdKy_mem name n r k h with h | ⟨y, h1, h2, h3⟩
        · exact .inl (by simp [h])
        · exact .inr ⟨y, by simp [h1], h2, h3⟩

theorem un_holdKy (name : ByteArray) (n : Int) : ∀ (ks : List Ky), (holdKy name n ks).map Ky.un = ks.map Ky.un
  | [] => rfl
  | x :: r => by
    unfold holdKy
    split
    · rfl
    · simp [un_holdKy name n r]

theorem findKy_mem (name : ByteArray) : ∀ (ks : List Ky), (ks.map (·.name)).Nodup → ∀ k ∈ ks, k.name = name → findKy name ks = some k
  | [], _, k, h, _ => by simp at h
  | x :: r, hn, k, h, e => by
    simp only [List.map_cons, List.nodup_cons] at hn
    unfold findKy
    rcases List.mem_cons.1 h with rfl | h
    · rw [if_pos e]
    · have hx : x.name ≠ name := fun e2 => hn.1 (List.mem_map.2 ⟨k, h, by rw [e, e2]⟩)
      rw [if_neg hx]
      exact findKy_mem name r hn.2 k h e

/-- An answer of the key's own count. -/
theorem PInv.answer {all : List Rec} {i : Nat} {s : St} (h : PInv all i s) (hn : Numbered all) (hf : s.fine) {k : Ky} (hk : k ∈ s.keys) :
    answer s k.name k.count = (0, ⟨s.lanes, holdKy k.name k.count s.keys⟩) ∧ PInv all i ⟨s.lanes, holdKy k.name k.count s.keys⟩ := by
  refine ⟨?_, h.four, h.lane, by simp only; rw [un_holdKy]; exact h.keys⟩
  unfold Go.Proofs.YthedkdbgfdjlkaaGreat.answer
  have := hf.key k hk
  rw [okKey_four (h.key hn hk).1, if_neg (by simp), findKy_mem _ _ h.apart k hk rfl]
  simp only
  rw [if_neg (by omega)]

theorem holdKy_held (name : ByteArray) (n : Int) : ∀ (ks : List Ky), (ks.map (·.name)).Nodup → ∀ k ∈ holdKy name n ks, (k.name ≠ name ∧ k ∈ ks) ∨ (k.name = name ∧ n ≤ k.held ∧ ∃ y ∈ ks, y.name = name ∧ k.count = y.count ∧ k.held = max y.held n)
  | [], _, k, h => by simp [holdKy] at h
  | x :: r, hn, k, h => by
    simp only [List.map_cons, List.nodup_cons] at hn
    unfold holdKy at h
    split at h
    · rename_i e
      rcases List.mem_cons.1 h with h | h
      · subst h
        exact .inr ⟨e, by simp only; omega, x, by simp, e, rfl, rfl⟩
      · refine .inl ⟨fun e2 => hn.1 (List.mem_map.2 ⟨k, h, by rw [e, e2]⟩), by simp [h]⟩
    · rename_i e
      rcases List.mem_cons.1 h with h | h
      · subst h
        exact .inl ⟨e, by simp⟩
      · rcases holdKy_held name n r hn.2 k h with ⟨h1, h2⟩ | ⟨h1, h2, y, h3, h4⟩
        · exact .inl ⟨h1, by simp [h2]⟩
        · exact .inr ⟨h1, h2, y, by simp [h3], h4⟩

theorem SInv.answer {all : List Rec} {i : Nat} {ks : List Ky} {L : List Pt} (h : SInv all i ks L) (hn : (ks.map (·.name)).Nodup) (name : ByteArray) (n : Int) (hL : ∃ p ∈ L, p.key = name ∧ n ≤ p.token) : SInv all i (holdKy name n ks) L := by
  refine ⟨h.apart, h.each, fun k hk h0 => ?_⟩
  rcases holdKy_held name n ks hn k hk with ⟨_, h2⟩ | ⟨h1, _, y, h3, h4, _, h5⟩
  · exact h.held k h2 h0
  · obtain ⟨p, g1, g2, g3⟩ := hL
    by_cases hy : y.held ≤ n
    · exact ⟨p, g1, by rw [g2, h1], by omega⟩
    · by_cases hy0 : 0 < y.held
      · obtain ⟨q, q1, q2, q3⟩ := h.held y h3 hy0
        exact ⟨q, q1, by rw [q2, h4, h1], by omega⟩
      · exact ⟨p, g1, by rw [g2, h1], by omega⟩

/-- What is put. -/
theorem putsOf_mem : ∀ (ks : List Ky) (p : Pt), p ∈ putsOf ks → ∃ k ∈ ks, p = ⟨k.name, k.count, k.fold⟩
  | [], p, h => by simp [putsOf] at h
  | x :: r, p, h => by
    unfold putsOf at h
    split at h
    · rcases List.mem_cons.1 h with h | h
      · exact ⟨x, by simp, h⟩
      · obtain ⟨k, h1, h2⟩ := putsOf_mem r p h
        exact ⟨k, by simp [h1], h2⟩
    · obtain ⟨k, h1, h2⟩ := putsOf_mem r p h
      exact ⟨k, by simp [h1], h2⟩

theorem putsOf_has : ∀ (ks : List Ky) (k : Ky), k ∈ ks → k.held < k.count → ∃ p ∈ putsOf ks, p.key = k.name
  | [], k, h, _ => by simp at h
  | x :: r, k, h, hc => by
    unfold putsOf
    rcases List.mem_cons.1 h with rfl | h
    · rw [if_pos hc]; exact ⟨_, List.mem_cons_self, rfl⟩
    · obtain ⟨p, h1, h2⟩ := putsOf_has r k h hc
      split
      · exact ⟨p, List.mem_cons_of_mem _ h1, h2⟩
      · exact ⟨p, h1, h2⟩

theorem putsOf_none : ∀ (ks : List Ky), (∀ k ∈ ks, k.held = k.count) → putsOf ks = []
  | [], _ => rfl
  | x :: r, h => by
    unfold putsOf
    rw [if_neg (by have := h x (by simp); omega)]
    exact putsOf_none r (fun k hk => h k (by simp [hk]))

theorem putsOf_len : ∀ (ks : List Ky), (putsOf ks).length ≤ ks.length
  | [] => by simp [putsOf]
  | x :: r => by
    have := putsOf_len r
    unfold putsOf
    split <;> simp <;> omega

/-- In the last round: what is not yet put again holds all. -/
def Done (P : List Pt) (ks : List Ky) : Prop := ∀ k ∈ ks, k.held = k.count ∨ ∃ p ∈ P, p.key = k.name

theorem Done.first {ks : List Ky} (hf : ∀ k ∈ ks, k.held ≤ k.count) : Done (putsOf ks) ks := by
  intro k hk
  by_cases h : k.held < k.count
  · exact .inr (putsOf_has ks k hk h)
  · exact .inl (by have := hf k hk; omega)

theorem Done.next {p : Pt} {P : List Pt} {ks : List Ky} (h : Done (p :: P) ks) (hn : (ks.map (·.name)).Nodup) {n : Int} (hp : ∀ k ∈ ks, k.name = p.key → k.count = n ∧ k.held ≤ k.count) : Done P (holdKy p.key n ks) := by
  intro k hk
  rcases holdKy_held p.key n ks hn k hk with ⟨h1, h2⟩ | ⟨h1, h2, y, h3, h4, h5, h6⟩
  · rcases h k h2 with h | ⟨q, hq, e⟩
    · exact .inl h
    · rcases List.mem_cons.1 hq with rfl | hq
      · exact absurd e.symm h1
      · exact .inr ⟨q, hq, e⟩
  · have := hp y h3 h4
    exact .inl (by omega)

def tokens : List Pt → Int
  | [] => 0
  | p :: r => p.token + tokens r

def pairs (l : List (ByteArray × Int)) : Int := l.foldr (fun p n => p.2 + n) 0

theorem pairs_perm {a b : List (ByteArray × Int)} (h : a.Perm b) : pairs a = pairs b := by
  induction h with
  | nil => rfl
  | cons x _ ih => simp only [pairs, List.foldr_cons] at ih ⊢; omega
  | swap x y l => simp only [pairs, List.foldr_cons]; omega
  | trans _ _ h1 h2 => exact h1.trans h2

theorem tokens_pairs : ∀ L : List Pt, tokens L = pairs (L.map fun p => (p.key, p.token))
  | [] => rfl
  | p :: r => by
    have := tokens_pairs r
    simp only [tokens, pairs, List.map_cons, List.foldr_cons] at this ⊢
    omega

theorem counts_pairs : ∀ ks : List Ky, counts ks = pairs (ks.map fun k => (k.name, k.count))
  | [] => rfl
  | p :: r => by
    have := counts_pairs r
    simp only [counts, pairs, List.map_cons, List.foldr_cons] at this ⊢
    omega

theorem nodup_fst {α : Type} {f : α → ByteArray} {g : α → Int} {l : List α} (h : (l.map f).Nodup) : (l.map fun x => (f x, g x)).Nodup := by
  unfold List.Nodup at h ⊢
  rw [List.pairwise_map] at h ⊢
  exact h.imp fun {a b} hab e => hab (by injection e)

/-- In the end the sink holds all. -/
theorem SInv.end {all : List Rec} {i : Nat} {s : St} {L : List Pt} (h : SInv all i s.keys L) (hP : PInv all i s) (hn : Numbered all) (hf : s.fine) (hi : i = all.length) (hd : ∀ k ∈ s.keys, k.held = k.count) : tokens L = all.length := by
  have hc := hP.counts (by omega)
  rw [tokens_pairs, ← hi, ← hc, counts_pairs]
  refine pairs_perm ((List.perm_ext_iff_of_nodup (nodup_fst h.apart) (nodup_fst hP.apart)).2 fun q => ?_)
  have tok : ∀ p ∈ L, ∀ k ∈ s.keys, p.key = k.name → p.token = k.count := fun p hp k hk e => by
    have h1 := h.token hp
    have h2 := (hP.key hn hk).2
    have h3 : k.count = (tally k.name (all.take i)).1 := by rw [← h2]
    obtain ⟨p', g1, g2, g3⟩ := h.held k hk (by have := hd k hk; have := (hf.key k hk).1; omega)
    have : p' = p := nodup_key h.apart p' g1 p hp (g2.trans e.symm)
    subst this
    have := hd k hk
    rw [e] at h1
    omega
  constructor
  · intro hq
    obtain ⟨p, hp, rfl⟩ := List.mem_map.1 hq
    have h1 := h.token hp
    obtain ⟨k, hk, e⟩ := hP.there (name := p.key) (by have := (h.each p hp).1; omega)
    exact List.mem_map.2 ⟨k, hk, by rw [e, tok p hp k hk e.symm]⟩
  · intro hq
    obtain ⟨k, hk, rfl⟩ := List.mem_map.1 hq
    obtain ⟨p, g1, g2, g3⟩ := h.held k hk (by have := hd k hk; have := (hf.key k hk).1; omega)
    exact List.mem_map.2 ⟨p, g1, by rw [g2, tok p g1 k hk g2]⟩

end Go.Proofs.YthedkdbgfdjlkaaGreat

/- Passed: THE SMALL FUNCTIONS, WALKED: fold of the first so many; passing; the sink's put. -/
namespace Go.Proofs.YthedkdbgfdjlkaaGreat
set_option linter.unusedVariables false
set_option linter.unusedSimpArgs false
open Go.RowKit Go.Lib

variable {R : World → Addr → Option St → (Nat → Prop) → Prop}

theorem tally_same (key : ByteArray) (l : List Rec) {i j : Nat} (h : (tally key (l.take i)).1 = (tally key (l.take j)).1) : tally key (l.take i) = tally key (l.take j) := by
  rcases Nat.le_total i j with hij | hij
  · have e : (l.take j).take i = l.take i := by rw [List.take_take]; congr 1; omega
    have := tally_take_stop key (l.take j) i (by rw [e]; exact h)
    rwa [e] at this
  · have e : (l.take i).take j = l.take j := by rw [List.take_take]; congr 1; omega
    have := tally_take_stop key (l.take i) j (by rw [e]; exact h.symm)
    rw [e] at this
    exact this.symm

set_option maxHeartbeats 2000000 in
theorem kfold_n {w : World} {lo : Nat} {v : Value} {l : List Rec} {key : ByteArray} (m : Nat) (hr : w.ownsRow lo 34 5 v l.length (recCells l)) (hk : key ∈ names4) (hl : l.length ≤ 900) (hv : ∀ x ∈ l, 0 ≤ x.value ∧ x.value ≤ 4294967295) :
    Calls Tryz.prog 22 #[v, .string key, .int .i64 (tally key (l.take m)).1] w fun e w' => e = .returned (.int .i64 (tally key (l.take m)).2) ∧ w' = w := by
  obtain ⟨p, cap, rfl⟩ := row_any hr
  obtain ⟨hT0, hT1, hT2⟩ := tally_take_le key l m
  obtain ⟨N, hN⟩ : ∃ N, N = (tally key (l.take m)).1 := ⟨_, rfl⟩
  rw [← hN] at hT0 hT1 ⊢
  have HN : Hid (N = (tally key (l.take m)).1) := hN
  have HT1 : Hid (N ≤ (tally key l).1) := hT1
  have hNl : N ≤ 900 := by omega
  clear hN hT1 hT2
  go_enter Tryz.func22, Tryz.ntmps22
  go_wp2_with fail
  go_loopw [7, 8, 9, 10] (fun sf sc si _ wr => ∃ (i : Nat) (c f : Int), si = .int .i64 i ∧ i ≤ l.length ∧ sc = .int .i64 c ∧ sf = .int .i64 f ∧ 0 ≤ c ∧ c ≤ N ∧ Hid (tally key (l.take i) = (c, f)) ∧ Hid (wr = w)) (fun _ _ si _ _ => l.length - (intOf si).toNat)
  case atStart => exact ⟨0, 0, 0, rfl, by omega, rfl, rfl, by omega, hT0, (show _ = _ from rfl), (show _ = _ from rfl)⟩
  case round =>
    obtain ⟨i, c, f, rfl, hi, rfl, rfl, hc0, hcN, HT, HW⟩ := hrel
    have hc : Chg (fun _ => False) w wr := by rw [HW.out]; exact Chg.refl _ _
    have hrg := tally_range hk (l.take i) (0, 0) (fun x hx => hv x (List.mem_of_mem_take hx)) (by simp) (by simp only [List.length_take]; omega) (by simp)
    have hrg' : 0 ≤ f ∧ f ≤ 4294967295 := by
      have : ((l.take i).foldl (tallyOne key) (0, 0)) = (c, f) := HT.out
      rw [this] at hrg
      exact hrg
    clear hrg
    by_cases hil : i < l.length
    · have hil' : (i : Int) < (l.length : Int) := by omega
      by_cases hcn : c < N
      · obtain ⟨x, hx⟩ : ∃ x, l[i]? = some x := ⟨_, List.getElem?_eq_getElem hil⟩
        obtain ⟨g, cap', hvs, _, _, hcell⟩ := row_pos hr (by omega)
        simp only [Value.slice.injEq] at hvs
        obtain ⟨rfl, _, rfl⟩ := hvs
        have cx := recCells_at l i x hx
        have m3 := hc.cellAt (hcell _ _ cx.2.2.2.1) id
        have m4 := hc.cellAt (hcell _ _ cx.2.2.2.2) id
        have hxv := hv x (List.mem_of_getElem? hx)
        have hnx := tally_take_next key l i x hx
        rw [HT.out] at hnx
        have HNX : Hid (tally key (l.take (i + 1)) = tallyOne key (c, f) x) := hnx
        clear hcell cx hnx HN HT1
        by_cases hke : x.key = key
        · rw [hke] at m3
          have HNX' : Hid (tally key (l.take (i + 1)) = (c + 1, foldOne key (c + 1) f x.value)) := by
            show _ = _
            rw [HNX.out]; unfold tallyOne; rw [if_pos hke]
          clear HNX hke HT
          simp only [names4, List.mem_cons, List.not_mem_nil, or_false] at hk
          rcases hk with rfl | rfl | rfl | rfl
          · simp only [kC] at m3 ⊢
            go_wp2_with fail
            refine ⟨⟨i + 1, c + 1, c + 1, by go_num, by omega, rfl, rfl, by omega, by omega, HNX', HW⟩, by simp [intOf]; omega⟩
          · simp only [kS] at m3 ⊢
            go_wp2_with fail
            exact ⟨⟨i + 1, c + 1, (f + x.value) % 4294967296, by go_num, by omega, rfl, rfl, by omega, by omega, HNX', HW⟩, by simp [intOf]; omega⟩
          · simp only [kL] at m3 ⊢
            go_wp2_with fail
            exact ⟨⟨i + 1, c + 1, x.value, by go_num, by omega, rfl, rfl, by omega, by omega, HNX', HW⟩, by simp [intOf]; omega⟩
          · have hmx : foldOne kM (c + 1) f x.value = max f x.value := rfl
            rw [hmx] at HNX'
            clear hmx
            simp only [kM] at m3 HNX' ⊢
            by_cases hgt : f < x.value
            · rw [Int.max_eq_right (by omega)] at HNX'
              go_wp2_with fail
              exact ⟨⟨i + 1, c + 1, x.value, by go_num, by omega, rfl, rfl, by omega, by omega, HNX', HW⟩, by simp [intOf]; omega⟩
            · rw [Int.max_eq_left (by omega)] at HNX'
              go_wp2_with fail
              exact ⟨⟨i + 1, c + 1, f, by go_num, by omega, rfl, rfl, by omega, by omega, HNX', HW⟩, by simp [intOf]; omega⟩
        · have hkn : (x.key.toList == key.toList) = false := by
            rw [beq_eq_false_iff_ne]
            intro e
            rw [ByteArray.toList_eq, ByteArray.toList_eq] at e
            exact hke (ByteArray.ext (Array.toList_inj.1 e))
          have HNX' : Hid (tally key (l.take (i + 1)) = (c, f)) := by
            show _ = _
            rw [HNX.out]; unfold tallyOne; rw [if_neg hke]
          clear HNX hke
          go_wp2_with fail
          refine ⟨⟨i + 1, c, f, by go_num, by omega, rfl, rfl, by omega, by omega, HNX', HW⟩, by simp [intOf]; omega⟩
      · have hcN : c = N := by omega
        have HF : Hid ((tally key (l.take m)).2 = f) := by
          show _ = _
          rw [← tally_same key l (i := i) (j := m) (by rw [HT.out, ← HN.out]; exact hcN), HT.out]
        clear HT HN HT1 hcN
        go_wp2_with fail
        go_ret
        exact ⟨by rw [HF.out]; rfl, HW.out⟩
    · have hil' : ¬ (i : Int) < (l.length : Int) := by omega
      have HF : Hid ((tally key (l.take m)).2 = f) := by
        show _ = _
        have h1 := HT1.out
        have h2 := HT.out
        have h3 : l.take i = l := List.take_of_length_le (by omega)
        rw [h3] at h2
        rw [h2] at h1
        rw [← tally_same key l (i := i) (j := m) (by rw [h3, h2, ← HN.out]; simp only at h1 ⊢; omega), h3, h2]
      clear HT HN HT1
      go_wp2_with fail
      go_ret
      exact ⟨by rw [HF.out]; rfl, HW.out⟩

def exP : St := ⟨[⟨0, 1, []⟩, Ln.init, Ln.init, Ln.init], [⟨exS, 1, 5, 0⟩]⟩
def exP2 : St := ⟨[⟨0, 1, []⟩, Ln.init, Ln.init, Ln.init], [⟨exS, 1, 5, 1⟩]⟩
theorem ex_p1 : accept? (some St.init) ex0 = ((1, 0), some exP) := by rfl
theorem ex_p2 : answer? (some exP) exS 2 = (9, some exP) := by rfl
theorem ex_p3 : answer? (some exP) exS 1 = (0, some exP2) := by rfl
theorem ex_p4 : puts? (some exP) = [⟨exS, 1, 5⟩] := by rfl
theorem ex_p5 : puts? (some exP2) = [] := by rfl

set_option maxHeartbeats 1000000 in
theorem passing_any (H : Api R) (HS : ApiS R) (w : World) :
    Calls Tryz.prog 18 #[] w fun e w' => e = .returned (.bool true) ∧ Chg (fun _ => False) w w' := by
  go_enter Tryz.func18, Tryz.ntmps18
  go_wp2_with fail
  refine (H.new w).mono ?_
  rintro _ w1 ⟨a, F1, rfl, hR1, hF1, hc1⟩
  go_wp2_with fail
  refine (rec_any _ _ _ _).mono ?_
  rintro _ w2 ⟨rfl, hc2⟩
  go_wp2_with fail
  refine (H.accept ex0 (H.keep hR1 hc2) rfl ex0_fits).mono ?_
  rintro _ w3 ⟨F3, rfl, hR3, hF3, hc3⟩
  rw [ex_p1] at hR3 ⊢
  go_wp2_with fail
  refine (HS.puts hR3).mono ?_
  rintro _ w4 ⟨vp, rfl, hp4, hR4, hc4⟩
  rw [ex_p4] at hp4
  obtain ⟨g, cap, rfl, hg, hcap, hcell⟩ := row_pos hp4 (by decide)
  have d0 : w4.cell? ⟨g, 0, none⟩ = some (.string { data := #[115] }) := hcell 0 _ rfl
  have d1 : w4.cell? ⟨g, 1, none⟩ = some (.int .i64 1) := hcell 1 _ rfl
  have d2 : w4.cell? ⟨g, 2, none⟩ = some (.int .i64 5) := hcell 2 _ rfl
  have hlt3 : ∀ k, F3 k → k < w3.heap.size := fun k hk => H.lt hR3 hk
  have hlen : ([⟨exS, 1, 5⟩] : List Pt).length = 1 := rfl
  rw [hlen]
  have herr : errno? (some exP) = 0 := rfl
  rw [herr]
  clear hp4 hcell hcap hlen herr
  go_wp2_with fail
  refine (HS.answer exS 2 hR4 (by decide) (by unfold inInt; decide)).mono ?_
  rintro _ w5 ⟨F5, rfl, hR5, hF5, hc5⟩
  rw [ex_p2] at hR5 ⊢
  have hlt4 : ∀ k, F3 k → k < w4.heap.size := fun k hk => H.lt hR4 hk
  have hz34 := hc4.size
  have hz45 := hc5.size
  have hg4 : g < w4.heap.size := World.block_lt_of_cell? _ _ d0
  replace d0 := hc5.cellAt d0 (fun h => by have := hlt3 _ h; omega)
  replace d1 := hc5.cellAt d1 (fun h => by have := hlt3 _ h; omega)
  replace d2 := hc5.cellAt d2 (fun h => by have := hlt3 _ h; omega)
  have hF5g : ¬ F5 g := fun h => by
    rcases hF5 _ h with h | h
    · have := hlt3 _ h; omega
    · omega
  go_wp2_with fail
  refine (HS.answer exS 1 hR5 (by decide) (by unfold inInt; decide)).mono ?_
  rintro _ w6 ⟨F6, rfl, hR6, hF6, hc6⟩
  rw [ex_p3] at hR6 ⊢
  replace d0 := hc6.cellAt d0 hF5g
  replace d1 := hc6.cellAt d1 hF5g
  replace d2 := hc6.cellAt d2 hF5g
  have hF6g : ¬ F6 g := fun h => by
    rcases hF6 _ h with h | h
    · exact hF5g h
    · omega
  go_wp2_with fail
  refine (HS.puts hR6).mono ?_
  rintro _ w7 ⟨vq, rfl, hp7, hR7, hc7⟩
  rw [ex_p5] at hp7
  obtain ⟨pq, cq, rfl⟩ := row_any hp7
  replace d0 := hc7.cellAt d0 hF6g
  replace d1 := hc7.cellAt d1 hF6g
  replace d2 := hc7.cellAt d2 hF6g
  have herr2 : errno? (some exP2) = 0 := rfl
  rw [herr2]
  have hlen2 : ([] : List Pt).length = 0 := rfl
  rw [hlen2]
  have h3 := hc1.step hc2 (fun _ h => h.elim)
  have y3 := h3.young hF1 hF3
  have h4 := h3.step hc3 hF1
  have h5 := h4.step hc4 y3
  have y5 := h5.young y3 hF5
  have h6 := h5.step hc5 y3
  have y6 := h6.young y5 hF6
  have h7 := h6.step hc6 y5
  have hall := h7.step hc7 y6
  clear hR1 hF1 hc1 hc2 hR3 hF3 hc3 hR4 hc4 hR5 hF5 hc5 hR6 hF6 hc6 hp7 hR7 hc7 herr2 hlen2 h3 y3 h4 h5 y5 h6 y6 h7 hlt3 hlt4 hz34 hz45 hg4 hF5g hF6g hg
  go_wp2
  go_ret
  exact ⟨rfl, hall⟩

end Go.Proofs.YthedkdbgfdjlkaaGreat

/- Passed: the sink's put, WALKED. -/
namespace Go.Proofs.YthedkdbgfdjlkaaGreat
set_option linter.unusedVariables false
set_option linter.unusedSimpArgs false
open Go.RowKit Go.Lib

/-- A sink in memory. -/
structure SinkAt (w : World) (sb lo : Nat) (vl : Value) (L : List Pt) : Prop where
  list : w.cell? ⟨sb, 0, none⟩ = some vl
  fz : ∀ j, w.frozen? ⟨sb, j, none⟩ = false
  row : w.ownsRow lo 68 3 vl L.length (putCells L)
  ne : vl.ownBlock ≠ some sb

theorem SinkAt.chg {F : Nat → Prop} {w w' : World} {sb lo : Nat} {vl : Value} {L : List Pt} (h : SinkAt w sb lo vl L) (hc : Chg F w w') (hb : ¬ F sb) (hv : ∀ k, vl.ownBlock = some k → ¬ F k) : SinkAt w' sb lo vl L :=
  ⟨hc.cellAt h.list hb, fun j => (World.frozen?_of_block (w := w) (hc.block sb (World.block_lt_of_cell? _ _ h.list) hb)).trans (h.fz j), hc.row' h.row hv, h.ne⟩

theorem Tryz.infoP : (Tryz.prog.info? 68).map (fun i => (i.zero, i.size, i.bytes)) = some (some (.agg #[.string { data := #[] }, .int .i64 0, .int .i64 0]), 3, 32) := by kernel_rfl

theorem sinkPut_at (p : Pt) : ∀ (L : List Pt) (i : Nat) (q : Pt), (∀ j x, j < i → L[j]? = some x → x.key ≠ p.key) → L[i]? = some q → q.key = p.key → sinkPut p L = if q.token < p.token then L.set i p else L
  | [], i, q, _, h, _ => by simp at h
  | y :: r, 0, q, _, h, e => by
    simp at h
    subst h
    unfold sinkPut
    rw [if_pos e]
    rfl
  | y :: r, i + 1, q, hn, h, e => by
    have ih := sinkPut_at p r i q (fun j x hj hx => hn (j + 1) x (by omega) (by simpa using hx)) (by simpa using h) e
    unfold sinkPut
    rw [if_neg (hn 0 y (by omega) rfl), ih]
    split <;> rfl

theorem sinkPut_new (p : Pt) : ∀ (L : List Pt), (∀ x ∈ L, x.key ≠ p.key) → sinkPut p L = L ++ [p]
  | [], _ => rfl
  | y :: r, h => by
    unfold sinkPut
    rw [if_neg (h y (by simp)), sinkPut_new p r (fun x hx => h x (by simp [hx]))]
    rfl

theorem SinkAt.push {w w1 : World} {sb lo : Nat} {vl v' : Value} {L : List Pt} (h : SinkAt w sb lo vl L) (o : Obj) (x : Pt) (hown : w1.ownsRow lo 68 3 v' (L.length + 1) (putCells L ++ x.cells)) (hg : (w.alloc o).drew.grownBy w1 vl.ownBlock) (hw : v'.ownBlock = vl.ownBlock ∨ ∀ k, v'.ownBlock = some k → (w.alloc o).drew.heap.size ≤ k) :
    SinkAt (w1.setCell ⟨sb, 0, none⟩ v') sb lo v' (L ++ [x]) ∧ Wh w.heap.size vl v' ∧ Chg (fun k => k = sb ∨ vl.ownBlock = some k) w (w1.setCell ⟨sb, 0, none⟩ v') := by
  have hlt := World.block_lt_of_cell? _ _ h.list
  have e : (w.alloc o).drew.heap.size = w.heap.size + 1 := World.size_alloc _ _
  have c1 : Chg (fun k => vl.ownBlock = some k) w w1 := ((Chg.refl (fun k => vl.ownBlock = some k) w).alloc o).trans (G := fun k => vl.ownBlock = some k) ⟨hg.os, hg.tape, hg.output, hg.size, fun k hk hne' => hg.block k hk (fun h => hne' h.symm)⟩ (fun _ _ h => h)
  have c2 : Chg (fun k => k = sb) w1 (w1.setCell ⟨sb, 0, none⟩ v') := Chg.setCell (p := ⟨sb, 0, none⟩) (Chg.refl (fun k => k = sb) w1) (fun _ => rfl) _
  have hb : v'.ownBlock ≠ some sb := by
    rcases hw with hw | hw
    · rw [hw]; exact h.ne
    · intro hk; have := hw _ hk; simp only at hlt; omega
  refine ⟨⟨World.cell?_setCell_same _ _ _ (c1.cellAt h.list h.ne), fun j => ?_, ?_, hb⟩, ?_, ?_⟩
  · rw [World.frozen?_setCell]
    exact (World.frozen?_of_block (w := w) (c1.block sb hlt h.ne)).trans (h.fz j)
  · have := c2.row' hown (fun k hk hf => hb (by rw [← hf]; exact hk))
    rw [putCells_append]
    simpa [putCells] using this
  · rcases hw with hw | hw
    · exact .inl hw
    · exact .inr fun k hk => by have := hw k hk; omega
  · exact (c1.mono (fun k hk => .inr hk)).trans c2 (fun k _ hk => .inl hk)

theorem SinkAt.store {w : World} {sb lo g cap : Nat} {L : List Pt} (h : SinkAt w sb lo (.slice (some ⟨g, 0, none⟩) L.length cap) L) (hgs : g ≠ sb) (i : Nat) (p : Pt) :
    SinkAt (((w.setCell ⟨g, i * 3, none⟩ (.string p.key)).setCell ⟨g, i * 3 + 1, none⟩ (.int .i64 p.token)).setCell ⟨g, i * 3 + 2, none⟩ (.int .i64 p.value)) sb lo (.slice (some ⟨g, 0, none⟩) L.length cap) (L.set i p) ∧
    Chg (fun k => k = g) w (((w.setCell ⟨g, i * 3, none⟩ (.string p.key)).setCell ⟨g, i * 3 + 1, none⟩ (.int .i64 p.token)).setCell ⟨g, i * 3 + 2, none⟩ (.int .i64 p.value)) := by
  have c : Chg (fun k => k = g) w (((w.setCell ⟨g, i * 3, none⟩ (.string p.key)).setCell ⟨g, i * 3 + 1, none⟩ (.int .i64 p.token)).setCell ⟨g, i * 3 + 2, none⟩ (.int .i64 p.value)) := (((Chg.refl (fun k => k = g) w).setCell (p := ⟨g, i * 3, none⟩) (fun _ => rfl) _).setCell (p := ⟨g, i * 3 + 1, none⟩) (fun _ => rfl) _).setCell (p := ⟨g, i * 3 + 2, none⟩) (fun _ => rfl) _
  refine ⟨⟨c.cellAt h.list (fun e => hgs e.symm), fun j => (World.frozen?_of_block (w := w) (c.block sb (World.block_lt_of_cell? _ _ h.list) (fun e => hgs e.symm))).trans (h.fz j), ?_, h.ne⟩, c⟩
  rw [List.length_set, putCells_set]
  exact (((h.row.stored (i * 3) _).1.stored (i * 3 + 1) _).1.stored (i * 3 + 2) _).1

set_option maxRecDepth 100000 in
set_option maxHeartbeats 4000000 in
theorem sinkput_any {w : World} {sb lo : Nat} {vl : Value} {L : List Pt} (p : Pt) (hS : SinkAt w sb lo vl L) (hlo : lo ≤ w.heap.size) (hL : L.length ≤ 1000) :
    Calls Tryz.prog 20 #[.pointer (some ⟨sb, 0, none⟩), .agg #[.string p.key, .int .i64 p.token, .int .i64 p.value]] w fun e w' =>
      ∃ vl' t, e = .returned (.int .i64 t) ∧ SinkAt w' sb lo vl' (sinkPut p L) ∧ (∃ q ∈ sinkPut p L, q.key = p.key ∧ q.token = t) ∧ Wh w.heap.size vl vl' ∧ Chg (fun k => k = sb ∨ vl.ownBlock = some k) w w' := by
  obtain ⟨i0, hi0, hz0, hz1, hz2⟩ := info_parts Tryz.infoP
  obtain ⟨W0, hW0⟩ : ∃ W0, W0 = w.alloc (Obj.cells #[.string p.key, .int .i64 p.token, .int .i64 p.value] 68) := ⟨_, rfl⟩
  have c0 : Chg (fun _ => False) w W0 := by rw [hW0]; exact (Chg.refl _ w).alloc _
  have b0 : W0.cell? ⟨w.heap.size, 0, none⟩ = some (.string p.key) := by rw [hW0]; exact World.cell?_alloc_at _ _ _ _ rfl
  have b1 : W0.cell? ⟨w.heap.size, 1, none⟩ = some (.int .i64 p.token) := by rw [hW0]; exact World.cell?_alloc_at _ _ _ _ rfl
  have b2 : W0.cell? ⟨w.heap.size, 2, none⟩ = some (.int .i64 p.value) := by rw [hW0]; exact World.cell?_alloc_at _ _ _ _ rfl
  have hS0 := hS.chg c0 id (fun _ _ h => h)
  have hsbw : sb < w.heap.size := World.block_lt_of_cell? _ _ hS.list
  have hrw : ∀ k, vl.ownBlock = some k → k < w.heap.size := fun k hk => (hS.row.lt k hk).2
  obtain ⟨q0, cap, rfl⟩ := row_any hS.row
  go_enter Tryz.func20, Tryz.ntmps20
  go_wp2_with fail
  rw [← hW0]
  clear hW0
  go_loopw [5] (fun si wr => ∃ i : Nat, si = .int .i64 i ∧ i ≤ L.length ∧ Hid (∀ j x, j < i → L[j]? = some x → x.key ≠ p.key) ∧ Chg (fun _ => False) W0 wr) (fun si _ => L.length - (intOf si).toNat)
  case atStart => exact ⟨0, rfl, by omega, (fun j x hj => by omega), Chg.refl _ _⟩
  case round =>
    obtain ⟨i, rfl, hi, HN, hc⟩ := hrel
    have hS1 := hS0.chg hc id (fun _ _ h => h)
    have l1 := hS1.list
    have y0 := hc.cellAt b0 id
    have y1 := hc.cellAt b1 id
    have y2 := hc.cellAt b2 id
    have hcw : Chg (fun _ => False) w wr := c0.trans hc (fun _ _ h => h)
    have hz := hcw.size
    by_cases hil : i < L.length
    · have hil' : (i : Int) < (L.length : Int) := by omega
      obtain ⟨x, hx⟩ : ∃ x, L[i]? = some x := ⟨_, List.getElem?_eq_getElem hil⟩
      obtain ⟨g, cap', hvs, _, _, hcell⟩ := row_pos hS1.row (by omega)
      simp only [Value.slice.injEq] at hvs
      obtain ⟨rfl, _, rfl⟩ := hvs
      have cx := putCells_at L i x hx
      have m0 := hcell _ _ cx.1
      have m1 := hcell _ _ cx.2.1
      have m2 := hcell _ _ cx.2.2
      have hgs : g ≠ sb := fun e => hS.ne (by rw [← e]; rfl)
      have hgw : g < w.heap.size := hrw g rfl
      clear hcell
      by_cases hke : x.key = p.key
      · rw [hke] at m0
        by_cases hgt : x.token < p.token
        · have f0 := row_frozen hS1.row (i * 3)
          have f1 := row_frozen hS1.row (i * 3 + 1)
          have f2 := row_frozen hS1.row (i * 3 + 2)
          go_wp2_with fail
          go_quiet (fail)
          go_wp2_with fail
          go_quiet (fail)
          go_wp2_with fail
          go_region
          go_wp2_with fail
          go_ret
          have e := sinkPut_at p L i x HN.out hx hke
          rw [if_pos hgt] at e
          refine ⟨.slice (some ⟨g, 0, none⟩) L.length cap, p.token, ?_, ?_, ?_, Wh.refl _ _, ?_⟩
          · rfl
          · rw [e]
            exact ((hS1.chg (((Quiet.refl wr).drewN _).chg (fun _ => False)) id (fun _ _ h => h)).store hgs i p).1
          · rw [e]
            exact ⟨p, List.mem_iff_getElem?.2 ⟨i, List.getElem?_set_self hil⟩, rfl, rfl⟩
          · exact ((hcw.trans (((Quiet.refl wr).drewN _).chg (fun _ => False)) (fun _ _ h => h)).mono (fun _ h => h.elim)).trans ((hS1.chg (((Quiet.refl wr).drewN _).chg (fun _ => False)) id (fun _ _ h => h)).store hgs i p).2 (fun k _ h => .inr (by rw [h]; rfl))
        · go_wp2_with fail
          go_quiet (fail)
          go_wp2_with fail
          go_quiet (fail)
          go_wp2_with fail
          go_ret
          have e := sinkPut_at p L i x HN.out hx hke
          rw [if_neg (by omega)] at e
          refine ⟨.slice (some ⟨g, 0, none⟩) L.length cap, x.token, rfl, ?_, ?_, Wh.refl _ _, ?_⟩
          · rw [e]
            exact hS1.chg (((Quiet.refl wr).drewN _).chg (fun _ => False)) id (fun _ _ h => h)
          · rw [e]
            exact ⟨x, List.mem_of_getElem? hx, hke, rfl⟩
          · exact (hcw.trans (((Quiet.refl wr).drewN _).chg (fun _ => False)) (fun _ _ h => h)).mono (fun _ h => h.elim)
      · have hkn : (x.key.toList == p.key.toList) = false := by
          rw [beq_eq_false_iff_ne]
          intro e
          rw [ByteArray.toList_eq, ByteArray.toList_eq] at e
          exact hke (ByteArray.ext (Array.toList_inj.1 e))
        have HN' : Hid (∀ j x, j < i + 1 → L[j]? = some x → x.key ≠ p.key) := fun j y hj hy => by
          by_cases e : j = i
          · subst e; rw [hx] at hy; rw [← Option.some.inj hy]; exact hke
          · exact HN.out j y (by omega) hy
        go_wp2_with fail
        go_quiet (fail)
        go_wp2_with fail
        exact ⟨⟨i + 1, by go_num, by omega, HN', hc.trans (((Quiet.refl _).drewN _).chg _) (fun _ _ h => h)⟩, by simp [intOf]; omega⟩
    · have hil' : ¬ (i : Int) < (L.length : Int) := by omega
      have HE : Hid (sinkPut p L = L ++ [p]) := sinkPut_new p L (fun x hx => by
        obtain ⟨j, hj, e⟩ := List.getElem_of_mem hx
        exact HN.out j x (by omega) (by rw [List.getElem?_eq_getElem hj, e]))
      have s1 : Hid (∀ j u, p.cells[j]? = some u → ((wr.alloc (.cells #[.string p.key, .int .i64 p.token, .int .i64 p.value] 68)).drew).cell? ((⟨wr.heap.size, 0, none⟩ : Addr).add j) = some u) := by
        intro j u hj
        match j, hj with
        | 0, hj => simp [Pt.cells] at hj; subst hj; simp [Addr.add]
        | 1, hj => simp [Pt.cells] at hj; subst hj; simp [Addr.add]
        | 2, hj => simp [Pt.cells] at hj; subst hj; simp [Addr.add]
        | k + 3, hj => simp [Pt.cells] at hj
      have s2 : Hid (∀ u ∈ p.cells, u.oneCell' = true) := by
        intro u hu
        simp [Pt.cells] at hu
        rcases hu with rfl | rfl | rfl <;> rfl
      have s3 : Hid (L.length + 1 ≤ maxLen) := by show _ ≤ maxLen; unfold maxLen; omega
      have s4 : Hid ((L.length + 1) * 32 ≤ 140737488355328) := by show _ ≤ _; omega
      have s5 : Hid (lo ≤ ((wr.alloc (.cells #[.string p.key, .int .i64 p.token, .int .i64 p.value] 68)).drew).heap.size) := by show lo ≤ (wr.alloc _).heap.size; rw [World.size_alloc]; omega
      have s6 : Hid (∀ (v' : Value) (w1 : World), w1.ownsRow lo 68 3 v' (L.length + 1) (putCells L ++ p.cells) → (wr.alloc (.cells #[.string p.key, .int .i64 p.token, .int .i64 p.value] 68)).drew.grownBy w1 (Value.slice q0 L.length cap).ownBlock → (v'.ownBlock = (Value.slice q0 L.length cap).ownBlock ∨ ∀ k, v'.ownBlock = some k → (wr.alloc (.cells #[.string p.key, .int .i64 p.token, .int .i64 p.value] 68)).drew.heap.size ≤ k) → w1.cell? ⟨sb, 0, none⟩ = some (.slice q0 L.length cap) ∧ w1.frozen? ⟨sb, 0, none⟩ = false ∧ (w1.setCell ⟨sb, 0, none⟩ v').cell? ⟨w.heap.size, 1, none⟩ = some (.int .i64 p.token) ∧ Hid (SinkAt (w1.setCell ⟨sb, 0, none⟩ v') sb lo v' (L ++ [p]) ∧ Wh wr.heap.size (.slice q0 L.length cap) v' ∧ Chg (fun k => k = sb ∨ (Value.slice q0 L.length cap).ownBlock = some k) wr (w1.setCell ⟨sb, 0, none⟩ v'))) := by
        intro v' w1 hown hg hw
        have hlt := World.block_lt_of_cell? _ _ hS1.list
        have hb := hg.block sb (by show sb < (wr.alloc _).heap.size; rw [World.size_alloc]; simp only at hlt; omega) (fun h => hS1.ne h.symm)
        have hb' : w1.heap[sb]? = wr.heap[sb]? := hb.trans (Below.heap_alloc _ _ _ hlt)
        have hpush := hS1.push _ p hown hg hw
        refine ⟨(World.cell?_of_block (w := wr) hb').trans hS1.list, (World.frozen?_of_block (w := wr) hb').trans (hS1.fz 0), hpush.2.2.cellAt y1 (fun h => ?_), hpush⟩
        rcases h with h | h
        · omega
        · have := hrw _ h; omega
      have hpa : (wr.alloc (.cells #[.string p.key, .int .i64 p.token, .int .i64 p.value] 68)).cell? ⟨sb, 0, none⟩ = some (.slice q0 L.length cap) := (World.cell?_alloc_lt wr _ _ (World.block_lt_of_cell? _ _ hS1.list)).trans hS1.list
      go_wp2_with fail
      go_region_law (refine step_append_own rfl (.tmp 56) (.tmp 58) 61 rfl lo 68 i0 _ 3 32 Tryz.underlying61 hi0 hz0 hz1 hz2 rfl (by decide) _ L.length (putCells L) (by simp [Act.eval, Act.put]) (hS1.row.alloc _) ⟨wr.heap.size, 0, none⟩ 1 1 p.cells (by simp [Act.eval, Act.put]) rfl s1.out s2.out s3.out s4.out s5.out ?_; intro v' w1 hown hgrow hwhere; obtain ⟨q', cap', rfl⟩ := row_any hown; obtain ⟨hp1, hz1', hy1, hh⟩ := s6.out (.slice q' (L.length + 1) cap') w1 hown hgrow hwhere)
      all_goals
        go_wp2_with fail
        go_ret
        refine ⟨.slice q' (L.length + 1) cap', p.token, rfl, by rw [HE.out]; exact hh.out.1, by rw [HE.out]; exact ⟨p, by simp, rfl, rfl⟩, (Wh.refl _ _).trans hh.out.2.1 hz, (hcw.mono (fun _ h => h.elim)).trans hh.out.2.2 (fun _ _ h => h)⟩

end Go.Proofs.YthedkdbgfdjlkaaGreat

/- Passed: what holds from call to call. -/
namespace Go.Proofs.YthedkdbgfdjlkaaGreat
set_option linter.unusedVariables false
set_option linter.unusedSimpArgs false
open Go.RowKit Go.Lib

variable {R : World → Addr → Option St → (Nat → Prop) → Prop}

/-- The relay, the sink and the records beside one another. -/
structure PHalf (R : World → Addr → Option St → (Nat → Prop) → Prop) (w : World) (a : Addr) (sb lo : Nat) (va vl : Value) (all : List Rec) (L : List Pt) (s : St) (F : Nat → Prop) : Prop where
  rel : R w a (some s) F
  snk : SinkAt w sb lo vl L
  row : w.ownsRow lo 34 5 va all.length (recCells all)
  fs : ¬ F sb
  fl : ∀ k, vl.ownBlock = some k → ¬ F k
  fa : ∀ k, va.ownBlock = some k → ¬ F k
  ao : va.ownBlock ≠ some sb
  sep : ∀ g, va.ownBlock = some g → vl.ownBlock ≠ some g
  lo : lo ≤ w.heap.size

variable {w w' : World} {a : Addr} {sb lo : Nat} {va vl vl' vp : Value} {all : List Rec} {L L' : List Pt} {s s' : St} {F F' : Nat → Prop}

theorem PHalf.keep (H : Api R) (h : PHalf R w a sb lo va vl all L s F) (c : Chg (fun _ => False) w w') : PHalf R w' a sb lo va vl all L s F :=
  ⟨H.keep h.rel c, h.snk.chg c id (fun _ _ h => h), c.row' h.row (fun _ _ h => h), h.fs, h.fl, h.fa, h.ao, h.sep, Nat.le_trans h.lo c.size⟩

theorem PHalf.call (h : PHalf R w a sb lo va vl all L s F) (c : Chg F w w') (hF : ∀ k, F' k → F k ∨ w.heap.size ≤ k) (hR : R w' a (some s') F') : PHalf R w' a sb lo va vl all L s' F' := by
  have hob : sb < w.heap.size := World.block_lt_of_cell? _ _ h.snk.list
  refine ⟨hR, h.snk.chg c h.fs h.fl, c.row' h.row h.fa, fun hk => ?_, fun k hk hf => ?_, fun k hk hf => ?_, h.ao, h.sep, Nat.le_trans h.lo c.size⟩
  · rcases hF _ hk with e | e
    · exact h.fs e
    · omega
  · rcases hF _ hf with e | e
    · exact h.fl k hk e
    · have := (h.snk.row.lt k hk).2; omega
  · rcases hF _ hf with e | e
    · exact h.fa k hk e
    · have := (h.row.lt k hk).2; omega

theorem PHalf.put (H : Api R) (h : PHalf R w a sb lo va vl all L s F) (ho : SinkAt w' sb lo vl' L') (hW : Wh w.heap.size vl vl') (c : Chg (fun k => k = sb ∨ vl.ownBlock = some k) w w') : PHalf R w' a sb lo va vl' all L' s F := by
  refine ⟨H.stable h.rel (fun k hk => c.block k (H.lt h.rel hk) (fun e => ?_)), ho, c.row' h.row (fun k hk e => ?_), h.fs, fun k hk hf => ?_, h.fa, h.ao, fun g hg hv => ?_, Nat.le_trans h.lo c.size⟩
  · rcases e with e | e
    · exact h.fs (by rw [← e]; exact hk)
    · exact h.fl k e hk
  · rcases e with e | e
    · exact h.ao (by rw [← e]; exact hk)
    · exact h.sep k hk e
  · rcases hW with e | e
    · exact h.fl k (by rw [← e]; exact hk) hf
    · have := e k hk
      have := H.lt h.rel hf
      omega
  · rcases hW with e | e
    · exact h.sep g hg (by rw [← e]; exact hv)
    · have := e g hv
      have := (h.row.lt g hg).2
      omega

/-- What is to be put, in memory beside them. -/
structure PutsAt (w : World) (sb lo : Nat) (vl vp : Value) (F : Nat → Prop) (P : List Pt) : Prop where
  row : w.ownsRow lo 68 3 vp P.length (putCells P)
  fp : ∀ k, vp.ownBlock = some k → ¬ F k
  ns : vp.ownBlock ≠ some sb
  sep : ∀ g, vp.ownBlock = some g → vl.ownBlock ≠ some g

theorem PutsAt.keep {P : List Pt} (h : PutsAt w sb lo vl vp F P) (c : Chg (fun _ => False) w w') : PutsAt w' sb lo vl vp F P :=
  ⟨c.row' h.row (fun _ _ h => h), h.fp, h.ns, h.sep⟩

theorem PutsAt.call {P : List Pt} (h : PutsAt w sb lo vl vp F P) (c : Chg F w w') (hF : ∀ k, F' k → F k ∨ w.heap.size ≤ k) : PutsAt w' sb lo vl vp F' P := by
  refine ⟨c.row' h.row h.fp, fun k hk hf => ?_, h.ns, h.sep⟩
  rcases hF _ hf with e | e
  · exact h.fp k hk e
  · have := (h.row.lt k hk).2; omega

theorem PutsAt.put {P : List Pt} (h : PutsAt w sb lo vl vp F P) (hW : Wh w.heap.size vl vl') (c : Chg (fun k => k = sb ∨ vl.ownBlock = some k) w w') : PutsAt w' sb lo vl' vp F P := by
  refine ⟨c.row' h.row (fun k hk e => ?_), h.fp, h.ns, fun g hg hv => ?_⟩
  · rcases e with e | e
    · exact h.ns (by rw [← e]; exact hk)
    · exact h.sep k hk e
  · rcases hW with e | e
    · exact h.sep g hg (by rw [← e]; exact hv)
    · have := e g hv
      have := (h.row.lt g hg).2
      omega

/-- Just told. -/
theorem PutsAt.first (H : Api R) {P : List Pt} (h : PHalf R w a sb lo va vl all L s F) (hr : w'.ownsRow w.heap.size 68 3 vp P.length (putCells P)) : PutsAt w' sb lo vl vp F P := by
  have hob : sb < w.heap.size := World.block_lt_of_cell? _ _ h.snk.list
  refine ⟨row_lower hr h.lo, fun k hk hf => ?_, fun e => ?_, fun g hg hv => ?_⟩
  · have := (hr.lt k hk).1
    have := H.lt h.rel hf
    omega
  · have := (hr.lt _ e).1; omega
  · have := (hr.lt g hg).1
    have := (h.snk.row.lt g hv).2
    omega

/-- What is young stays so. -/
theorem young_put {w0 : World} (h : Chg (fun _ => False) w0 w) (ho : SinkAt w sb w0.heap.size vl L) (hob : w0.heap.size ≤ sb) (c : Chg (fun k => k = sb ∨ vl.ownBlock = some k) w w') : Chg (fun _ => False) w0 w' :=
  h.step c (fun k hk => by
    rcases hk with e | e
    · omega
    · exact (ho.row.lt k e).1)

theorem SInv.key {i : Nat} (h : SInv all i s.keys L) (hP : PInv all i s) (hn : Numbered all) {p : Pt} (hp : p ∈ L) : p.key ∈ names4 := by
  obtain ⟨h1, _⟩ := h.each p hp
  have h2 := h.token hp
  obtain ⟨k, hk, e⟩ := hP.there (name := p.key) (by omega)
  rw [← e]
  exact (hP.key hn hk).1

theorem SInv.few {i : Nat} (h : SInv all i s.keys L) (hP : PInv all i s) (hn : Numbered all) : L.length ≤ 4 := by
  have h1 := h.apart.length_le_of_subset (l₂ := names4) (fun x hx => by
    obtain ⟨p, hp, rfl⟩ := List.mem_map.1 hx
    exact h.key hP hn hp)
  rw [List.length_map] at h1
  exact h1

/-- Those that are put are keys as they stand. -/
def Putn (all : List Rec) (m : Nat) (P : List Pt) : Prop := ∀ p ∈ P, (⟨p.key, p.token, p.value, 0⟩ : Ky) ∈ keysOf (all.take m) []

theorem PInv.putn {m : Nat} (h : PInv all m s) : Putn all m (putsOf s.keys) := fun p hp => by
  obtain ⟨k, hk, rfl⟩ := putsOf_mem _ _ hp
  rw [← h.keys]
  exact List.mem_map.2 ⟨k, hk, rfl⟩

theorem PInv.ofPut {m : Nat} (h : PInv all m s) (hf : s.fine) {P : List Pt} (hp : Putn all m P) {p : Pt} (hm : p ∈ P) : ∃ k ∈ s.keys, k.name = p.key ∧ k.count = p.token ∧ 1 ≤ p.token ∧ (p.token, p.value) = tally p.key (all.take m) := by
  have h1 := hp p hm
  have h2 := (keysOf_tally (all.take m)).2.1 _ h1
  rw [← h.keys] at h1
  obtain ⟨k, hk, e⟩ := List.mem_map.1 h1
  have e1 : k.name = p.key := by have := congrArg Ky.name e; exact this
  have e2 : k.count = p.token := by have := congrArg Ky.count e; exact this
  exact ⟨k, hk, e1, e2, by have := (hf.key k hk).1; omega, h2⟩

theorem row_cut {lo : Nat} {e : TypeId} {size n m cap : Nat} {p : Option Addr} {xs : List Value} (h : w.ownsRow lo e size (.slice p n cap) n xs) (hm : m ≤ n) : w.ownsRow lo e size (.slice p m cap) m (xs.take (m * size)) := by
  refine ⟨?_, ?_⟩
  · rw [List.length_take, h.1]
    exact Nat.min_eq_left (Nat.mul_le_mul_right _ hm)
  · rcases h.2 with ⟨hv, hz⟩ | ⟨g, cap', cur, hv, hbg, hg, hcap, hmax, hcur, htake⟩
    · simp only [Value.slice.injEq] at hv
      obtain ⟨rfl, _, rfl⟩ := hv
      have : m = 0 := by omega
      subst this
      exact .inl ⟨rfl, rfl⟩
    · simp only [Value.slice.injEq] at hv
      obtain ⟨rfl, _, rfl⟩ := hv
      refine .inr ⟨g, cap, cur, rfl, hbg, hg, by omega, hmax, hcur, ?_⟩
      rw [← htake, List.take_take]
      congr 1
      exact (Nat.min_eq_left (Nat.mul_le_mul_right _ hm)).symm

theorem recCells_take : ∀ (l : List Rec) (m : Nat), (recCells l).take (m * 5) = recCells (l.take m)
  | [], m => by simp [recCells]
  | x :: r, 0 => by simp [recCells]
  | x :: r, m + 1 => by
    rw [show (m + 1) * 5 = m * 5 + 5 by omega]
    simp [recCells, Rec.cells, recCells_take r m]

theorem tokens_take_next {L : List Pt} {q : Nat} {p : Pt} (h : L[q]? = some p) : tokens (L.take (q + 1)) = tokens (L.take q) + p.token := by
  obtain ⟨hl, e⟩ := List.getElem?_eq_some_iff.1 h
  rw [List.take_succ_eq_append_getElem hl, e]
  have : ∀ (a b : List Pt), tokens (a ++ b) = tokens a + tokens b := by
    intro a
    induction a with
    | nil => intro b; simp [tokens]
    | cons x r ih => intro b; simp [tokens, ih]; omega
  rw [this]
  simp [tokens]

theorem tokens_bound : ∀ {L : List Pt}, (∀ p ∈ L, 1 ≤ p.token ∧ p.token ≤ 1000) → 0 ≤ tokens L ∧ tokens L ≤ 1000 * L.length
  | [], _ => by simp [tokens]
  | p :: r, h => by
    have h1 := h p (by simp)
    have h2 := tokens_bound (L := r) (fun q hq => h q (by simp [hq]))
    simp [tokens]
    omega

end Go.Proofs.YthedkdbgfdjlkaaGreat

/- Passed, WALKED. -/
namespace Go.Proofs.YthedkdbgfdjlkaaGreat
set_option linter.unusedVariables false
set_option linter.unusedSimpArgs false
open Go.RowKit Go.Lib

variable {R : World → Addr → Option St → (Nat → Prop) → Prop}

theorem SInv.tok {all : List Rec} {i : Nat} {ks : List Ky} {L : List Pt} {p q : Pt} (h : SInv all i ks (sinkPut p L)) (h2 : (p.token, p.value) = tally p.key (all.take i)) (hq : q ∈ sinkPut p L) (hk : q.key = p.key) : q.token = p.token := by
  have h1 := h.token hq
  rw [hk, ← h2] at h1
  obtain ⟨q', g1, g2, g3⟩ := (sinkPut_up p L).2
  have : q' = q := nodup_key h.apart q' g1 q hq (g2.trans hk.symm)
  subst this
  simp only at h1
  omega

theorem names4_size {k : ByteArray} (h : k ∈ names4) : k.size ≤ maxLen := by
  simp only [names4, List.mem_cons, List.not_mem_nil, or_false] at h
  rcases h with e | e | e | e <;> rw [e] <;> decide

theorem Numbered.fit {all : List Rec} (hN : Numbered all) {x : Rec} (hx : x ∈ all) : x.fits ∧ 0 ≤ x.number ∧ x.number ≤ 900 := by
  have hxe := hN.each x hx
  obtain ⟨sn, hsn⟩ : ∃ sn : Nat, x.session = sn := ⟨x.session.toNat, by omega⟩
  obtain ⟨hnn, hno⟩ := ofS_number hN hx (i := sn) hsn
  have hnl := (List.getElem?_eq_some_iff.1 hno).1
  have hol : (ofS all sn).length ≤ all.length := List.length_filter_le _ _
  have hfew := hN.few
  obtain ⟨h1, h2, h3, h4, h5, h6⟩ := hxe
  refine ⟨⟨?_, ?_, ?_, ?_, ?_⟩, hnn, by omega⟩
  · unfold inInt; omega
  · unfold inInt; omega
  · unfold inInt; omega
  · unfold inInt; omega
  · simp only [names4, List.mem_cons, List.not_mem_nil, or_false] at h4
    rcases h4 with e | e | e | e <;> rw [e] <;> decide

set_option maxRecDepth 100000 in
set_option maxHeartbeats 8000000 in
theorem passed_walk (H : Api R) (HS : ApiS R) (w : World) (v u : Value) (L0 : List Snt) (P0 : List Int) (hS : SentAt w v L0) (hP : IntsAt w u P0) :
    Calls Tryz.prog 6 #[v, u] w fun e w' => e = .returned (.bool true) ∧ Chg (fun _ => False) w w' := by
  obtain ⟨pv, cv, rfl⟩ := hS.val
  obtain ⟨pu, cu, rfl⟩ := hP.val
  have hlen := hP.len
  go_enter Tryz.func6, Tryz.ntmps6
  go_wp2_with fail
  refine (passing_any H HS w).mono ?_
  rintro _ w1 ⟨rfl, c1⟩
  go_wp2_with fail
  refine (H.new w1).mono ?_
  rintro _ w2 ⟨a, F2, rfl, hR2, hF2, c2⟩
  have c02 : Chg (fun _ => False) w w2 := c1.trans c2 (fun _ _ h => h)
  have hF02 : ∀ k, F2 k → w.heap.size ≤ k := fun k hk => Nat.le_trans c1.size (hF2 k hk)
  have hlt2 : ∀ k, F2 k → k < w2.heap.size := fun k hk => H.lt hR2 hk
  have hS2 : SentAt w2 (.slice pv L0.length cv) L0 := ⟨hS.val, hS.len, fun i x hx => by
    obtain ⟨sb, so, cap, e, y0, y1, y2⟩ := hS.cells i x hx
    exact ⟨sb, so, cap, e, c02.cellAt y0 id, c02.cellAt y1 id, c02.cellAt y2 id⟩, hS.fits⟩
  clear c1 c2 hF2
  go_wp2_with fail
  refine (numbered_any hS2).mono ?_
  rintro _ w3 ⟨va, all, rfl, ra, hN, c3⟩
  have hfew := hN.few
  obtain ⟨pa, ca, rfl⟩ := row_any ra
  obtain ⟨W4, hW4⟩ : ∃ W4, W4 = w3.alloc (Obj.cells #[.slice none 0 0] 63) := ⟨_, rfl⟩
  have c34 : Chg (fun _ => False) w3 W4 := by rw [hW4]; exact (Chg.refl _ w3).alloc _
  have hz23 := c3.size
  have hz02 := c02.size
  have hH : PHalf R W4 a w3.heap.size w.heap.size (.slice pa all.length ca) (.slice none 0 0) all [] St.init F2 := by
    refine ⟨H.keep (H.keep hR2 c3) c34, ⟨?_, fun j => ?_, World.ownsRow_nil _ _ _ _, by simp [Value.ownBlock]⟩, row_lower (c34.row' ra (fun _ _ h => h)) hz02, fun h => ?_, fun k hk => by simp [Value.ownBlock] at hk, fun k hk hf => ?_, fun h => ?_, fun g _ hv => by simp [Value.ownBlock] at hv, ?_⟩
    · rw [hW4]; exact World.cell?_alloc_at _ _ _ _ rfl
    · rw [hW4]; exact World.frozen?_alloc_at _ _ _ _ rfl
    · have := hlt2 _ h; omega
    · have := hlt2 _ hf
      have := (ra.lt k hk).1
      omega
    · have := (ra.lt _ h).2; omega
    · have := c34.size; omega
  have c04 : Chg (fun _ => False) w W4 := (c02.trans c3 (fun _ _ h => h)).trans c34 (fun _ _ h => h)
  have hob : w.heap.size ≤ w3.heap.size := by omega
  clear c02 hR2 hS2 hlt2 c3 ra c34 hz23 hz02
  go_wp2_with fail
  rw [← hW4]
  clear hW4
  obtain ⟨sb, hsb⟩ : ∃ sb, sb = w3.heap.size := ⟨_, rfl⟩
  rw [← hsb] at hH hob ⊢
  clear hsb
  go_loopw [9, 10, 11, 12, 13, 14, 15, 16, 17, 18, 19, 20] (fun sat si _ _ _ _ _ _ _ _ _ _ wr => ∃ (i t m : Nat) (s : St) (F : Nat → Prop) (vl : Value) (L : List Pt), si = .int .i64 i ∧ i ≤ all.length + 1 ∧ sat = .int .i64 t ∧ t ≤ P0.length ∧ PHalf R wr a sb w.heap.size (.slice pa all.length ca) vl all L s F ∧ m ≤ i ∧ m ≤ all.length ∧ i ≤ m + 1 ∧ (i = all.length + 1 ∨ i = m) ∧ PInv all m s ∧ SInv all m s.keys L ∧ Hid (i = all.length + 1 → ∀ k ∈ s.keys, k.held = k.count) ∧ (∀ k, F k → w.heap.size ≤ k) ∧ Chg (fun _ => False) w wr) (fun _ si _ _ _ _ _ _ _ _ _ _ _ => all.length + 1 - (intOf si).toNat)
  case atStart => exact ⟨0, 0, 0, _, F2, _, [], rfl, by omega, rfl, by omega, hH, by omega, by omega, by omega, .inr rfl, PInv.init all, SInv.nil all, (fun h => by omega), hF02, c04⟩
  case round =>
    obtain ⟨i, t, m, s, F, vl, L, rfl, hi, rfl, ht, hH1, hm1, hm2, hm3, hm4, hI, hQ, HD, hFw, hc⟩ := hrel
    clear hH c04 hF02
    by_cases hil : i ≤ all.length
    · have him : i = m := by omega
      subst him
      have hil' : (i : Int) ≤ (all.length : Int) := by omega
      clear hm1 hm3 hm4 HD
      go_upto_if 46 with fail
      obtain ⟨m', hm'⟩ : ∃ m', m' = min (i + 1) all.length := ⟨_, rfl⟩
      go_cut [11, 12] from 46 to 67 (fun _ _ wc => ∃ (s' : St) (F' : Nat → Prop), PHalf R wc a sb w.heap.size (.slice pa all.length ca) vl all L s' F' ∧ PInv all m' s' ∧ SInv all m' s'.keys L ∧ (∀ k, F' k → w.heap.size ≤ k) ∧ Chg (fun _ => False) w wc)
      case first =>
        by_cases hlt : i < all.length
        · have hlt' : (i : Int) < (all.length : Int) := by omega
          have e' : m' = i + 1 := by omega
          have HE : Hid (m' = i + 1) := e'
          obtain ⟨x, hx⟩ : ∃ x, all[i]? = some x := ⟨_, List.getElem?_eq_getElem hlt⟩
          have hxm := List.mem_of_getElem? hx
          obtain ⟨hfit, hn0, hn9⟩ := hN.fit hxm
          obtain ⟨ga, ca', hva, _, _, hcell⟩ := row_pos hH1.row (by omega)
          simp only [Value.slice.injEq] at hva
          obtain ⟨rfl, _, rfl⟩ := hva
          have cx := recCells_at all i x hx
          have m0 := hcell _ _ cx.1
          have m1 := hcell _ _ cx.2.1
          have m2 := hcell _ _ cx.2.2.1
          have m3 := hcell _ _ cx.2.2.2.1
          have m4 := hcell _ _ cx.2.2.2.2
          have cx2 := cx.2.2.1
          obtain ⟨g1, g2, g3⟩ := hI.accept hN hx
          have hacc := H.accept x hH1.rel (hN.each x hxm).2.2.1 hfit
          simp only [accept?, g1] at hacc
          have hQ' : SInv all (i + 1) (accept s x).2.keys L := by rw [g2]; exact hQ.accept hI.sorted _ _
          obtain ⟨s', hs'⟩ : ∃ s', s' = (accept s x).2 := ⟨_, rfl⟩
          rw [← hs'] at hacc g3 hQ'
          unfold Rec.value' at hacc
          clear g1 g2 hs' hcell cx hm' e' hfit hx
          go_wp2_with fail
          refine hacc.mono ?_
          rintro _ w6 ⟨F6, rfl, hR6, hF6, c6⟩
          clear hacc
          have hH6 := hH1.call c6 hF6 hR6
          obtain ⟨_, _, hva, _, _, hcell6⟩ := row_pos hH6.row (by omega)
          simp only [Value.slice.injEq, Option.some.injEq, Addr.mk.injEq] at hva
          obtain ⟨⟨rfl, _, _⟩, _, rfl⟩ := hva
          have q2 := hcell6 _ _ cx2
          clear hcell6
          go_wp2_with fail
          go_meet
          case rel => exact ⟨s', F6, hH6, by rw [HE.out]; exact g3, by rw [HE.out]; exact hQ', hc.young hFw hF6, hc.step c6 hFw⟩
        · have hlt' : ¬ (i : Int) < (all.length : Int) := by omega
          have e' : m' = i := by omega
          have HE : Hid (m' = i) := e'
          clear hm' e'
          go_wp2_with fail
          go_meet
          case rel => exact ⟨s, F, hH1, by rw [HE.out]; exact hI, by rw [HE.out]; exact hQ, hFw, hc⟩
      case rest =>
        clear hFw hc hH1 hI hQ
        obtain ⟨s1, F1, hH1, hI, hQ, hFw, hc⟩ := hcut
        have hm'l : m' ≤ all.length := by omega
        have HM' : Hid (m' = min (i + 1) all.length) := hm'
        clear hm'
        have hput := HS.puts hH1.rel
        simp only [puts?, errno?] at hput
        go_wp2_with fail
        refine hput.mono ?_
        rintro _ w5 ⟨vp, rfl, hp5, hR5, c5⟩
        clear hput
        have hpa := PutsAt.first H hH1 hp5
        have hH5 := hH1.call c5 (fun k hk => .inl hk) hR5
        have hpn := hI.putn
        have hpl : (putsOf s1.keys).length ≤ 1000 := by
          have h1 := putsOf_len s1.keys
          have h2 : s1.keys.length ≤ 1000 := by
            have h3 := hI.apart.length_le_of_subset (l₂ := names4) (fun x hx => by
              obtain ⟨k, hk, rfl⟩ := List.mem_map.1 hx
              exact (hI.key hN hk).1)
            rw [List.length_map] at h3
            have : names4.length = 4 := rfl
            omega
          omega
        have hdn : Done (putsOf s1.keys) s1.keys := Done.first (fun k hk => ((H.fine hR5).key k hk).2.2)
        obtain ⟨P, hPe⟩ : ∃ P, P = putsOf s1.keys := ⟨_, rfl⟩
        rw [← hPe] at hpa hpn hpl hdn hp5
        have hc5 : Chg (fun _ => False) w w5 := hc.step c5 hFw
        obtain ⟨pp, cp, rfl⟩ := row_any hp5
        clear hp5 hPe hR5 hH1 hc c5
        go_wp2_with fail
        go_loopw [9, 15, 16, 17, 18] (fun sat sk _ _ _ wq => ∃ (j t : Nat) (s : St) (F : Nat → Prop) (vl : Value) (L : List Pt), sk = .int .i64 j ∧ j ≤ P.length ∧ sat = .int .i64 t ∧ t ≤ P0.length ∧ PHalf R wq a sb w.heap.size (.slice pa all.length ca) vl all L s F ∧ PutsAt wq sb w.heap.size vl (.slice pp P.length cp) F P ∧ PInv all m' s ∧ SInv all m' s.keys L ∧ Hid (i = all.length → Done (P.drop j) s.keys) ∧ (∀ k, F k → w.heap.size ≤ k) ∧ Chg (fun _ => False) w wq) (fun _ sk _ _ _ _ => P.length - (intOf sk).toNat)
        case atStart => exact ⟨0, t, s1, F1, vl, L, rfl, by omega, rfl, ht, hH5, hpa, hI, hQ, (fun _ => by simpa using hdn), hFw, hc5⟩
        case round =>
          clear hH5 hpa hI hQ hdn hFw hc5 ht
          obtain ⟨j, t, s, F, vl, L, rfl, hj, rfl, ht, hH5, hpa, hI, hQ, HDn, hFw, hc⟩ := hrel
          by_cases hjl : j < P.length
          · have hjl' : (j : Int) < (P.length : Int) := by omega
            obtain ⟨p, hp⟩ : ∃ p, P[j]? = some p := ⟨_, List.getElem?_eq_getElem hjl⟩
            have hpm := List.mem_of_getElem? hp
            obtain ⟨kk, hkk, ek1, ek2, ek3, ek4⟩ := hI.ofPut (H.fine hH5.rel) hpn hpm
            have hkn := (hI.key hN hkk).1
            rw [ek1] at hkn
            have htk : p.token ≤ 900 := by
              have h1 := tally_take_le p.key all m'
              rw [← ek4] at h1
              simp only at h1
              omega
            obtain ⟨gp, cp', hvp, _, _, hcp⟩ := row_pos hpa.row (by omega)
            simp only [Value.slice.injEq] at hvp
            obtain ⟨rfl, _, rfl⟩ := hvp
            have cx := putCells_at P j p hp
            have y0 := hcp _ _ cx.1
            have y1 := hcp _ _ cx.2.1
            have y2 := hcp _ _ cx.2.2
            have cx0 := cx.1
            have hLf := hQ.few hI hN
            have hda := (hI.answer hN (H.fine hH5.rel) hkk)
            rw [ek1, ek2] at hda
            have HEK : Hid (kk.name = p.key ∧ kk.count = p.token) := ⟨ek1, ek2⟩
            have HEK4 : Hid ((p.token, p.value) = tally p.key (all.take m')) := ek4
            have HHP : Hid (P[j]? = some p) := hp
            have HDA : Hid (answer s p.key p.token = (0, ⟨s.lanes, holdKy p.key p.token s.keys⟩)) := hda.1
            have hI' := hda.2
            clear hcp cx ek1 ek2 ek4 hp hda
            go_upto_region 22 with fail
            obtain ⟨B0, hB0⟩ : ∃ B0, B0 = (decide (i < all.length) && decide (t < P0.length)) := ⟨_, rfl⟩
            have HB0 : Hid (B0 = (decide (i < all.length) && decide (t < P0.length))) := hB0
            clear hB0
            go_cut [90] from 81 to 90 (fun s90 wc => s90 = .bool B0 ∧ wc = wr)
            case first =>
              by_cases hlt : i < all.length
              · have hlt' : (i : Int) < (all.length : Int) := by omega
                by_cases htl : t < P0.length
                · have htl' : (t : Int) < (P0.length : Int) := by omega
                  go_wp2_with fail
                  go_meet
                  case rel => exact ⟨by rw [HB0.out]; simp [hlt, htl], rfl⟩
                · have htl' : ¬ (t : Int) < (P0.length : Int) := by omega
                  go_wp2_with fail
                  go_meet
                  case rel => exact ⟨by rw [HB0.out]; simp [htl]; try omega, rfl⟩
              · have hlt' : ¬ (i : Int) < (all.length : Int) := by omega
                go_wp2_with fail
                go_meet
                case rel => exact ⟨by rw [HB0.out]; simp [hlt]; try omega, rfl⟩
            case rest =>
              obtain ⟨rfl, hwc⟩ := hcut
              rw [hwc]
              clear hwc
              go_upto_if 90 with fail
              go_cut [9, 16] from 90 to 97 (fun s9 s16 wc => ∃ (t' : Nat) (h : Int), s9 = .int .i64 t' ∧ t' ≤ P0.length ∧ s16 = .int .i64 h ∧ 0 ≤ h ∧ h ≤ 3 ∧ Hid (i = all.length → h = 3) ∧ wc = wr)
              case first =>
                cases B0 with
                | false =>
                  go_wp2_with fail
                  go_meet
                  case rel => exact ⟨t, 3, rfl, ht, rfl, by omega, by omega, (fun _ => rfl), rfl⟩
                | true =>
                  have hb := HB0.out
                  simp at hb
                  obtain ⟨hlt, htl⟩ := hb
                  obtain ⟨c, hcx⟩ : ∃ c, P0[t]? = some c := ⟨_, List.getElem?_eq_getElem htl⟩
                  obtain ⟨lb, lo', cap, hvv, z0⟩ := hP.cells t c hcx
                  simp only [Value.slice.injEq] at hvv
                  obtain ⟨rfl, _, rfl⟩ := hvv
                  have hpk := fun w => pick_any c 4 w (hP.fits c (List.mem_of_getElem? hcx)) (by omega) (by omega)
                  have hpr := pickI_range (c := c) (n := 4) (by omega)
                  obtain ⟨kn, hkn'⟩ : ∃ kn : Int, pickI c 4 = kn := ⟨_, rfl⟩
                  rw [hkn'] at hpk hpr
                  have zr := hc.cellAt z0 id
                  have htl' : (t : Int) < (P0.length : Int) := by omega
                  clear hkn' hcx
                  go_wp2_with fail
                  refine (hpk _).mono ?_
                  rintro _ wp ⟨rfl, ewp⟩
                  rw [ewp]
                  clear ewp wp
                  go_wp2_with fail
                  go_meet
                  case rel => exact ⟨t + 1, kn, by go_num, by omega, rfl, by omega, by omega, (fun e => by omega), rfl⟩
              case rest =>
                clear ht
                obtain ⟨t', h, rfl, ht, rfl, hh0, hh3, HH3, hwc⟩ := hcut
                rw [hwc]
                clear hwc
                by_cases hz : h = 0
                · have HZ : Hid (h = 0) := hz
                  rw [hz] at ⊢
                  clear hz
                  go_wp2_with fail
                  go_roundw
                  case rel => exact ⟨j + 1, t', s, F, vl, L, by go_num, by omega, rfl, ht, hH5, hpa, hI, hQ, (fun e => by have := HH3.out e; have := HZ.out; omega), hFw, hc⟩
                  case measure => simp [intOf]; omega
                · have hz' : (h == 0) = false := by simpa using hz
                  have hsp := sinkput_any p hH5.snk hH5.lo (by omega)
                  go_wp2_with fail
                  refine hsp.mono ?_
                  rintro _ w6 ⟨vl6, tk, rfl, hS6, ⟨q, hq1, hq2, hq3⟩, hW6, c6⟩
                  clear hsp
                  have hH6 := hH5.put H hS6 hW6 c6
                  have hpa6 := hpa.put hW6 c6
                  have hQ6 := hQ.put ek3 HEK4.out
                  have htok : tk = p.token := by rw [← hq3]; exact hQ6.tok HEK4.out hq1 hq2
                  rw [htok]
                  have hcw6 := young_put hc hH5.snk hob c6
                  clear y0 y1 y2
                  have HQQ : Hid (∃ q ∈ sinkPut p L, q.key = p.key ∧ p.token ≤ q.token) := ⟨q, hq1, hq2, by omega⟩
                  clear hq1 hq2 hq3 htok
                  by_cases h1 : 1 < h
                  · have hans := HS.answer p.key p.token hH6.rel (names4_size hkn) (by unfold inInt; omega)
                    simp only [answer?] at hans
                    rw [HDA.out] at hans
                    simp only at hans
                    obtain ⟨_, _, hvp, _, _, hcp⟩ := row_pos hpa6.row (by omega)
                    simp only [Value.slice.injEq, Option.some.injEq, Addr.mk.injEq] at hvp
                    obtain ⟨⟨rfl, _, _⟩, _, rfl⟩ := hvp
                    have y0 := hcp _ _ cx0
                    clear hcp
                    go_wp2_with fail
                    refine hans.mono ?_
                    rintro _ w7 ⟨F7, rfl, hR7, hF7, c7⟩
                    clear hans
                    have HDn' : Hid (i = all.length → Done (P.drop (j + 1)) (holdKy p.key p.token s.keys)) := fun e => by
                      have hd := HDn.out e
                      have hpe := (List.getElem?_eq_some_iff.1 HHP.out).2
                      rw [List.drop_eq_getElem_cons hjl, hpe] at hd
                      refine hd.next hI.apart (fun k hk ek => ?_)
                      have : k = kk := nodup_key hI.apart k hk kk hkk (ek.trans HEK.out.1.symm)
                      subst this
                      exact ⟨HEK.out.2, ((H.fine hH5.rel).key k hk).2.2⟩
                    go_wp2_with fail
                    go_roundw
                    case rel => exact ⟨j + 1, t', ⟨s.lanes, holdKy p.key p.token s.keys⟩, F7, vl6, sinkPut p L, by go_num, by omega, rfl, ht, hH6.call c7 hF7 hR7, hpa6.call c7 hF7, hI', hQ6.answer hI.apart _ _ HQQ.out, HDn', hcw6.young hFw hF7, hcw6.step c7 hFw⟩
                    case measure => simp [intOf]; omega
                  · have h1' : ¬ 1 < h := h1
                    have HH1 : Hid (¬ 1 < h) := h1
                    go_wp2_with fail
                    go_roundw
                    case rel => exact ⟨j + 1, t', s, F, vl6, sinkPut p L, by go_num, by omega, rfl, ht, hH6, hpa6, hI, hQ6, (fun e => by have := HH3.out e; have := HH1.out; omega), hFw, hcw6⟩
                    case measure => simp [intOf]; omega
          · have hjl' : ¬ (j : Int) < (P.length : Int) := by omega
            have HDe : Hid (i = all.length → ∀ k ∈ s.keys, k.held = k.count) := fun e => by
              have hd := HDn.out e
              rw [List.drop_of_length_le (by omega)] at hd
              intro k hk
              rcases hd k hk with h | ⟨q, hq, _⟩
              · exact h
              · simp at hq
            have hLf := hQ.few hI hN
            obtain ⟨pl, cl, rfl⟩ := row_any hH5.snk.row
            clear HDn hpa hpn
            go_wp2_with fail
            go_loopw [19, 20] (fun sk _ wz => ∃ (q : Nat), sk = .int .i64 q ∧ q ≤ L.length ∧ PHalf R wz a sb w.heap.size (.slice pa all.length ca) (.slice pl L.length cl) all L s F ∧ Chg (fun _ => False) w wz) (fun sk _ _ => L.length - (intOf sk).toNat)
            case atStart => exact ⟨0, rfl, by omega, hH5, hc⟩
            case round =>
              clear hH5 hc
              obtain ⟨q, rfl, hq, hH5, hc⟩ := hrel
              have l0 := hH5.snk.list
              by_cases hql : q < L.length
              · have hql' : (q : Int) < (L.length : Int) := by omega
                obtain ⟨x, hx⟩ : ∃ x, L[q]? = some x := ⟨_, List.getElem?_eq_getElem hql⟩
                have hxm := List.mem_of_getElem? hx
                obtain ⟨hx1, jx, hjx, hxt⟩ := hQ.each x hxm
                have hxk := hQ.key hI hN hxm
                obtain ⟨gl, cl', hvl, _, _, hcl⟩ := row_pos hH5.snk.row (by omega)
                simp only [Value.slice.injEq] at hvl
                obtain ⟨rfl, _, rfl⟩ := hvl
                have cx := putCells_at L q x hx
                have y0 := hcl _ _ cx.1
                have y1 := hcl _ _ cx.2.1
                have y2 := hcl _ _ cx.2.2
                have hmp : 0 < m' := by
                  rcases Nat.eq_zero_or_pos m' with h | h
                  · exfalso
                    have h0 : jx = 0 := by omega
                    subst h0
                    simp [tally] at hxt
                    omega
                  · exact h
                obtain ⟨ga, ca', hva, _, hcap, _⟩ := row_pos hH5.row (by omega)
                simp only [Value.slice.injEq] at hva
                obtain ⟨rfl, _, rfl⟩ := hva
                obtain ⟨W5, hW5⟩ : ∃ W5, W5 = wr.alloc (Obj.cells #[.string x.key, .int .i64 x.token, .int .i64 x.value] 68) := ⟨_, rfl⟩
                have c5 : Chg (fun _ => False) wr W5 := by rw [hW5]; exact (Chg.refl _ wr).alloc _
                have z0 : W5.cell? ⟨wr.heap.size, 0, none⟩ = some (.string x.key) := by rw [hW5]; exact World.cell?_alloc_at _ _ _ _ rfl
                have z1 : W5.cell? ⟨wr.heap.size, 1, none⟩ = some (.int .i64 x.token) := by rw [hW5]; exact World.cell?_alloc_at _ _ _ _ rfl
                have z2 : W5.cell? ⟨wr.heap.size, 2, none⟩ = some (.int .i64 x.value) := by rw [hW5]; exact World.cell?_alloc_at _ _ _ _ rfl
                have hkf : ∀ k, Calls Tryz.prog 22 #[.slice (some ⟨ga, 0, none⟩) m' ca, .string x.key, .int .i64 x.token] (W5.drewN k) fun e w' => e = .returned (.int .i64 x.value) ∧ w' = W5.drewN k := fun k => by
                  have hr5 := (c5.trans (((Quiet.refl W5).drewN k).chg _) (fun _ _ h => h)).row' hH5.row (fun _ _ h => h)
                  have hr6 := row_cut hr5 hm'l
                  rw [recCells_take] at hr6
                  have hlt : (all.take m').length = m' := by simp; omega
                  have hr7 : (W5.drewN k).ownsRow w.heap.size 34 5 (.slice (some ⟨ga, 0, none⟩) m' ca) (all.take m').length (recCells (all.take m')) := by rw [hlt]; exact hr6
                  have := kfold_n (l := all.take m') (key := x.key) jx hr7 hxk (by omega) (fun y hy => (hN.each y (List.mem_of_mem_take hy)).2.2.2.2)
                  rw [List.take_take, Nat.min_eq_left hjx, ← hxt] at this
                  exact this
                have hmin : min ((i : Int) + 1) (all.length : Int) = (m' : Int) := by have := HM'.out; omega
                have hd1 : decide (x.token < 1) = false := by simp; omega
                have hmc : (m' : Int) ≤ (ca : Int) := by omega
                clear hcl cx hxt hjx
                go_wp2_with fail
                rw [← hW5]
                clear hW5
                go_quiet (first | (go_at_call 22; refine Calls.quiet_of_same (hkf _)))
                go_wp2_with fail
                exact ⟨⟨q + 1, by go_num, by omega, hH5.keep H (c5.trans (((Quiet.refl _).drewN _).chg _) (fun _ _ h => h)), hc.trans (c5.trans (((Quiet.refl _).drewN _).chg _) (fun _ _ h => h)) (fun _ _ h => h)⟩, by simp [intOf]; omega⟩
              · have hql' : ¬ (q : Int) < (L.length : Int) := by omega
                go_wp2_with fail
                have hmm := HM'.out
                exact ⟨⟨i + 1, t, m', s, F, _, L, by go_num, by omega, rfl, ht, hH5, by omega, hm'l, by omega, by omega, hI, hQ, (fun e => HDe.out (by omega)), hFw, hc⟩, by simp [intOf]; omega⟩
    · have hil' : ¬ (i : Int) ≤ (all.length : Int) := by omega
      have hie : i = all.length + 1 := by omega
      have him : m = all.length := by omega
      subst him
      have hd := HD.out hie
      have hput := HS.puts hH1.rel
      simp only [puts?, errno?] at hput
      rw [putsOf_none s.keys hd] at hput
      have hend := hQ.end hI hN (H.fine hH1.rel) rfl hd
      have hLf := hQ.few hI hN
      have htb : ∀ p ∈ L, 1 ≤ p.token ∧ p.token ≤ 1000 := fun p hp => by
        have h1 := (hQ.each p hp).1
        have h2 := hQ.token hp
        have h3 := tally_take_le p.key all all.length
        omega
      obtain ⟨pl, cl, rfl⟩ := row_any hH1.snk.row
      go_wp2_with fail
      refine hput.mono ?_
      rintro _ w5 ⟨vp, rfl, hp5, hR5, c5⟩
      clear hput
      obtain ⟨pp, cp, rfl⟩ := row_any hp5
      have hH5 := hH1.call c5 (fun k hk => .inl hk) hR5
      have hc5 : Chg (fun _ => False) w w5 := hc.step c5 hFw
      clear hH1 hc c5 hp5 hR5
      go_wp2_with fail
      go_loopw [23, 24] (fun sn sk wz => ∃ (q : Nat) (n : Int), sk = .int .i64 q ∧ q ≤ L.length ∧ sn = .int .i64 n ∧ Hid (n = tokens (L.take q)) ∧ SinkAt wz sb w.heap.size (.slice pl L.length cl) L ∧ Chg (fun _ => False) w wz) (fun _ sk _ => L.length - (intOf sk).toNat)
      case atStart => exact ⟨0, 0, rfl, by omega, rfl, (show _ = _ from rfl), hH5.snk, hc5⟩
      case round =>
        obtain ⟨q, n, rfl, hq, rfl, HN, hS5, hc⟩ := hrel
        clear hH5 hc5
        have l0 := hS5.list
        by_cases hql : q < L.length
        · have hql' : (q : Int) < (L.length : Int) := by omega
          obtain ⟨x, hx⟩ : ∃ x, L[q]? = some x := ⟨_, List.getElem?_eq_getElem hql⟩
          obtain ⟨gl, cl', hvl, _, _, hcl⟩ := row_pos hS5.row (by omega)
          simp only [Value.slice.injEq] at hvl
          obtain ⟨rfl, _, rfl⟩ := hvl
          have y1 := hcl _ _ (putCells_at L q x hx).2.1
          have hnx := tokens_take_next hx
          have hxb := htb x (List.mem_of_getElem? hx)
          have hnb := tokens_bound (L := L.take q) (fun p hp => htb p (List.mem_of_mem_take hp))
          rw [← HN.out] at hnb
          have hlt : (L.take q).length ≤ 4 := by simp only [List.length_take]; omega
          have HN' : Hid (n + x.token = tokens (L.take (q + 1))) := by show _ = _; rw [hnx, HN.out]
          clear hcl hnx HN
          go_wp2_with fail
          exact ⟨⟨q + 1, n + x.token, by go_num, by omega, rfl, HN', hS5, hc⟩, by simp [intOf]; omega⟩
        · have hql' : ¬ (q : Int) < (L.length : Int) := by omega
          have hn : n = (all.length : Int) := by
            have := HN.out
            rw [List.take_of_length_le (by omega)] at this
            rw [this]; exact hend
          rw [hn]
          clear HN hn hend
          go_wp2_with fail
          go_ret
          exact ⟨by simp, hc⟩

end Go.Proofs.YthedkdbgfdjlkaaGreat
