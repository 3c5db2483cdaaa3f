import Derived.Test.YthedkdbgfdjlkaaGreatPack1
import Derived.Test.YthedkdbgfdjlkaaGreatPack2
import Derived.Test.YthedkdbgfdjlkaaGreatPack3
import Derived.Test.YthedkdbgfdjlkaaGreatPack4
import Derived.Test.YthedkdbgfdjlkaaGreatPack5
import Derived.Test.YthedkdbgfdjlkaaGreatPack6
/- Where all epochs are 0, the state itself tells how long the bytes can be. -/
namespace Go.Proofs.YthedkdbgfdjlkaaGreat
set_option linter.unusedVariables false
set_option linter.unusedSimpArgs false
open Go.RowKit

variable {R : Nat → World → Addr → Option St → (Nat → Prop) → Prop}

def heldS : List Ky → Int
  | [] => 0
  | k :: r => k.held + heldS r

/-- A bound that the state tells. -/
def St.pot (s : St) : Nat := 512 + 32 * (s.records + heldS s.keys).toNat

def RQ (R : Nat → World → Addr → Option St → (Nat → Prop) → Prop) (w : World) (a : Addr) : Option St → (Nat → Prop) → Prop
  | none, F => ∃ n, n ≤ roomy ∧ R n w a none F
  | some s, F => (∀ l ∈ s.lanes, l.epoch = 0) ∧ ∃ n, n ≤ s.pot ∧ R n w a (some s) F

theorem heldS_takeKy (name : ByteArray) (val : Int) : ∀ ks : List Ky, heldS (takeKy name val ks) = heldS ks
  | [] => by simp [takeKy, heldS, Ky.more]
  | k :: r => by
    have := heldS_takeKy name val r
    unfold takeKy
    split
    · simp [heldS, Ky.more]
    · split
      · simp [heldS, Ky.more]
      · simp [heldS, this]

theorem heldS_drain : ∀ (b : Int) (ws : List Wt) (ks : List Ky), heldS (drainW b ws ks).2.2 = heldS ks
  | b, [], ks => by simp [drainW]
  | b, x :: r, ks => by
    by_cases hb : x.num = b
    · have := heldS_drain (b + 1) r (takeKy x.key x.val ks)
      rw [heldS_takeKy] at this
      simp only [drainW, if_pos hb]
      exact this
    · simp only [drainW, if_neg hb]

theorem heldS_le : ∀ {ks : List Ky}, (∀ k ∈ ks, 1 ≤ k.count ∧ 0 ≤ k.held ∧ k.held ≤ k.count) → 0 ≤ heldS ks ∧ heldS ks ≤ counts ks
  | [], _ => by simp [heldS, counts]
  | k :: r, h => by
    have h1 := heldS_le (ks := r) (fun y hy => h y (by simp [hy]))
    have h2 := h k (by simp)
    simp [heldS, counts]; omega

theorem zero_accept {s : St} (x : Rec) (hx : x.epoch = 0) (h0 : ∀ l ∈ s.lanes, l.epoch = 0) :
    (∀ l ∈ (accept s x).2.lanes, l.epoch = 0) ∧ ((accept s x).2 = s ∨ ((accept s x).2.records = s.records + 1 ∧ heldS (accept s x).2.keys = heldS s.keys)) := by
  unfold accept
  split
  · exact ⟨h0, .inl rfl⟩
  · split
    · exact ⟨h0, .inl rfl⟩
    · split
      · exact ⟨h0, .inl rfl⟩
      · rename_i l hl
        have hle : l.epoch = 0 := h0 l (List.mem_of_getElem? hl)
        have ht : l.turned x.epoch = l := by unfold Ln.turned; rw [if_neg (by omega)]
        unfold acceptIn
        simp only [ht]
        split
        · exact ⟨h0, .inl rfl⟩
        · split
          · exact ⟨h0, .inl rfl⟩
          · split
            · exact ⟨h0, .inl rfl⟩
            · split
              · exact ⟨h0, .inl rfl⟩
              · split
                · exact ⟨h0, .inl rfl⟩
                · simp only
                  refine ⟨fun y hy => ?_, .inr ⟨?_, heldS_drain _ _ _⟩⟩
                  · rcases List.mem_or_eq_of_mem_set hy with h | h
                    · exact h0 y h
                    · rw [h]; exact hle
                  · have h1 := drain_len l.base (putW ⟨x.number, x.key, x.value⟩ l.ws) s.keys
                    rw [putW_length] at h1
                    unfold St.records
                    simp only
                    rw [waits_set _ _ _ _ hl]
                    simp only
                    omega

theorem hold_same (name : ByteArray) (n : Int) : ∀ {ks : List Ky} {k : Ky}, findKy name ks = some k → (n ≤ k.held ∧ holdKy name n ks = ks) ∨ heldS (holdKy name n ks) ≥ heldS ks + 1
  | [], k, h => by simp [findKy] at h
  | y :: r, k, h => by
    unfold findKy at h
    unfold holdKy
    split at h
    · rename_i hy
      obtain rfl : y = k := by simpa using h
      rw [if_pos hy]
      by_cases hn : n ≤ y.held
      · exact .inl ⟨hn, by rw [show max y.held n = y.held by omega]⟩
      · refine .inr ?_
        simp [heldS]; omega
    · rename_i hy
      rw [if_neg hy]
      rcases hold_same name n h with ⟨h1, h2⟩ | h2
      · exact .inl ⟨h1, by rw [h2]⟩
      · refine .inr ?_
        simp [heldS]; omega

theorem zero_answer {s : St} (key : ByteArray) (n : Int) : (answer s key n).2.lanes = s.lanes ∧ (answer s key n).2.records = s.records ∧ ((answer s key n).2 = s ∨ heldS (answer s key n).2.keys ≥ heldS s.keys + 1) := by
  unfold answer
  split
  · exact ⟨rfl, rfl, .inl rfl⟩
  · split
    · exact ⟨rfl, rfl, .inl rfl⟩
    · rename_i k hk
      split
      · exact ⟨rfl, rfl, .inl rfl⟩
      · refine ⟨rfl, ?_, ?_⟩
        · unfold St.records; simp only; rw [counts_hold]
        · rcases hold_same key n hk with ⟨_, h2⟩ | h2
          · exact .inl (by simp only; rw [h2])
          · exact .inr h2

theorem pot_room {s : St} (h : s.fine) : s.pot ≤ roomy ∧ 0 ≤ s.records ∧ 0 ≤ heldS s.keys := by
  obtain ⟨h1, h2⟩ := heldS_le h.key
  have h3 := h.total
  have h4 := (waits_ge (ls := s.lanes)).1
  have h5 := keys_le (fun k hk => (h.key k hk).1)
  unfold St.pot roomy
  unfold St.records at h3 ⊢
  omega

theorem ApiN.zero (H : ApiN R) : Api (RQ R) where
  lt := by
    intro w a o F k h hk
    cases o with
    | none => obtain ⟨n, _, h⟩ := h; exact H.lt h hk
    | some s => obtain ⟨_, n, _, h⟩ := h; exact H.lt h hk
  stable := by
    intro w w' a o F h hs
    cases o with
    | none => obtain ⟨n, hn, h⟩ := h; exact ⟨n, hn, H.stable h hs⟩
    | some s => obtain ⟨h0, n, hn, h⟩ := h; exact ⟨h0, n, hn, H.stable h hs⟩
  fine := by
    intro w a s F h
    obtain ⟨_, n, _, h⟩ := h
    exact H.fine h
  new := fun w => (H.new w).mono fun e w' ⟨a, F, h1, h2, h3, h4⟩ => ⟨a, F, h1, ⟨by simp [St.init, Ln.init], 512, by unfold St.pot; omega, h2⟩, h3, h4⟩
  accept := by
    intro w a o F x h hx hf
    cases o with
    | none =>
      obtain ⟨n, hn, h⟩ := h
      refine (H.accept x h hn hf).mono ?_
      rintro e w' ⟨F', m, h1, h2, h3, h4, h5, h6⟩
      exact ⟨F', h1, ⟨m, by rw [h6 rfl]; exact hn, h2⟩, h3, h4⟩
    | some s =>
      obtain ⟨h0, n, hn, h⟩ := h
      have hfi := H.fine h
      obtain ⟨p1, p2, p3⟩ := pot_room hfi
      refine (H.accept x h (Nat.le_trans hn p1) hf).mono ?_
      rintro e w' ⟨F', m, h1, h2, h3, h4, h5, h6⟩
      obtain ⟨z1, z2⟩ := zero_accept x hx h0
      refine ⟨F', h1, ⟨z1, m, ?_, h2⟩, h3, h4⟩
      rcases z2 with z2 | ⟨z2, z3⟩
      · rw [z2]
        have : m = n := h6 (by simp only [accept?]; rw [z2])
        omega
      · unfold St.pot at hn ⊢
        rw [z2, z3]
        omega
  state := by
    intro w a o F h
    cases o with
    | none =>
      obtain ⟨n, hn, h⟩ := h
      refine (H.state h).mono ?_
      rintro e w' ⟨vs, vk, h1, h2, h3, h4⟩
      exact ⟨vs, vk, h1, h2, ⟨n, hn, h3⟩, h4⟩
    | some s =>
      obtain ⟨h0, n, hn, h⟩ := h
      refine (H.state h).mono ?_
      rintro e w' ⟨vs, vk, h1, h2, h3, h4⟩
      exact ⟨vs, vk, h1, h2, ⟨h0, n, hn, h3⟩, h4⟩
  close := by
    intro w a o F h
    cases o with
    | none =>
      obtain ⟨n, hn, h⟩ := h
      refine (H.close h).mono ?_
      rintro e w' ⟨h1, h2, h3⟩
      exact ⟨h1, ⟨n, hn, h2⟩, h3⟩
    | some s =>
      obtain ⟨h0, n, hn, h⟩ := h
      have := (pot_room (H.fine h)).1
      refine (H.close h).mono ?_
      rintro e w' ⟨h1, h2, h3⟩
      exact ⟨h1, ⟨n, Nat.le_trans hn this, h2⟩, h3⟩

theorem ApiSN.zero (H : ApiN R) (HS : ApiSN R) : ApiS (RQ R) where
  puts := by
    intro w a o F h
    cases o with
    | none =>
      obtain ⟨n, hn, h⟩ := h
      refine (HS.puts h).mono ?_
      rintro e w' ⟨vp, h1, h2, h3, h4⟩
      exact ⟨vp, h1, h2, ⟨n, hn, h3⟩, h4⟩
    | some s =>
      obtain ⟨h0, n, hn, h⟩ := h
      refine (HS.puts h).mono ?_
      rintro e w' ⟨vp, h1, h2, h3, h4⟩
      exact ⟨vp, h1, h2, ⟨h0, n, hn, h3⟩, h4⟩
  answer := by
    intro w a o F key n h hk hi
    cases o with
    | none =>
      obtain ⟨m, hm, h⟩ := h
      refine (HS.answer key n h hm hk hi).mono ?_
      rintro e w' ⟨F', m', h1, h2, h3, h4, h5, h6⟩
      exact ⟨F', h1, ⟨m', by rw [h6 rfl]; exact hm, h2⟩, h3, h4⟩
    | some s =>
      obtain ⟨h0, m, hm, h⟩ := h
      have hfi := H.fine h
      obtain ⟨p1, p2, p3⟩ := pot_room hfi
      refine (HS.answer key n h (Nat.le_trans hm p1) hk hi).mono ?_
      rintro e w' ⟨F', m', h1, h2, h3, h4, h5, h6⟩
      obtain ⟨z1, z2, z3⟩ := zero_answer (s := s) key n
      refine ⟨F', h1, ⟨(show ∀ l ∈ (Go.Proofs.YthedkdbgfdjlkaaGreat.answer s key n).2.lanes, l.epoch = 0 by rw [z1]; exact h0), m', ?_, h2⟩, h3, h4⟩
      rcases z3 with z3 | z3
      · rw [z3]
        have : m' = m := h6 (by simp only [answer?]; rw [z3])
        omega
      · unfold St.pot at hm ⊢
        rw [z2]
        omega

end Go.Proofs.YthedkdbgfdjlkaaGreat

/- The program's calls are the document's, whatever epochs there are. -/
namespace Go.Proofs.YthedkdbgfdjlkaaGreat
set_option linter.unusedVariables false
set_option linter.unusedSimpArgs false
open Go.RowKit Go.Lib Go.Conc.Locks

theorem relT_new (w : World) : Calls Tryz.prog 8 #[] w fun e w' => ∃ a F, e = .returned (.pointer (some a)) ∧ RelT (encHead St.init) w' a (some St.init) F ∧ (∀ k, F k → w.heap.size ≤ k) ∧ Chg (fun _ => False) w w' := by
  refine (New_cells w).mono ?_
  rintro e w' ⟨v, w1, rfl, r1, c1, hw⟩
  have hz := c1.size
  have cA : Chg (fun _ => False) w1 w' := by rw [hw]; exact chg_alloc _ _
  have hs : w'.heap.size = w1.heap.size + 1 := by rw [hw]; simp
  have nb : v.ownBlock ≠ some w1.heap.size := fun e => by have := (r1.lt _ e).2; omega
  refine ⟨_, fun k => k = w1.heap.size ∨ v.ownBlock = some k, rfl, ⟨w1.heap.size, rfl, .inl rfl, fun k hk => ?_, ?_, fun _ => 0, fun _ => 0, fun _ => .slice none 0 0, .slice none 0 0, v, fun _ => [], [], ?_, ?_, ?_, ?_, ?_, fun k hk => .inr hk, sound_init⟩, fun k hk => ?_, c1.trans cA (fun _ _ h => h)⟩
  · rcases hk with rfl | hk
    · omega
    · have := (r1.lt k hk).2; omega
  · rw [hw]
    exact ⟨World.cell?_alloc_at _ _ _ _ rfl, World.cell?_alloc_at _ _ _ _ rfl, World.cell?_alloc_at _ _ _ _ rfl, World.cell?_alloc_at _ _ _ _ rfl, fun j => World.frozen?_alloc_at _ _ _ _ rfl⟩
  · rw [hw]
    refine ⟨⟨fun i hi => ?_, fun i hi => ?_, fun i hi => ?_, World.cell?_alloc_at _ _ _ _ rfl⟩, fun j => World.frozen?_alloc_at _ _ _ _ rfl, fun i hi => World.ownsRow_nil _ _ _ _, World.ownsRow_nil _ _ _ _, fun i hi => by simp [Value.ownBlock], by simp [Value.ownBlock], fun i j _ _ _ g hg => by simp [Value.ownBlock] at hg, fun i _ g hg => by simp [Value.ownBlock] at hg, Nat.zero_le _⟩
    · rcases (by omega : i = 0 ∨ i = 1 ∨ i = 2 ∨ i = 3) with rfl | rfl | rfl | rfl <;> exact World.cell?_alloc_at _ _ _ _ rfl
    · rcases (by omega : i = 0 ∨ i = 1 ∨ i = 2 ∨ i = 3) with rfl | rfl | rfl | rfl <;> exact World.cell?_alloc_at _ _ _ _ rfl
    · rcases (by omega : i = 0 ∨ i = 1 ∨ i = 2 ∨ i = 3) with rfl | rfl | rfl | rfl <;> exact World.cell?_alloc_at _ _ _ _ rfl
  · exact ⟨fun i hi => by simp, by simp, ⟨List.Pairwise.nil, by simp, by simp, by simp, by simp [counts, qLens]⟩, fun i hi => by simp [counts], fun i hi x hx => by simp at hx⟩
  · refine ⟨rfl, rfl, fun i hi => ⟨Ln.init, ?_, rfl, rfl, List.Pairwise.nil, .refl _, trivial, by simp [Ln.init]⟩, fun i hi => by simp, by simp [St.names, St.init, Ln.init, distinct], by simp⟩
    rcases (by omega : i = 0 ∨ i = 1 ∨ i = 2 ∨ i = 3) with rfl | rfl | rfl | rfl <;> rfl
  · intro k hk
    rcases hk with ⟨i, _, hk⟩ | hk <;> simp [Value.ownBlock] at hk
  · rw [encHead_init]
    refine ⟨by rw [hw]; exact World.cell?_alloc_at _ _ _ _ rfl, (r1.lower (Nat.zero_le _)).chg cA (fun _ _ h => h), nb, fun k _ hr => ?_⟩
    rcases hr with ⟨i, _, hr⟩ | hr <;> simp [Value.ownBlock] at hr
  · rcases hk with rfl | hk
    · omega
    · exact (r1.lt k hk).1

/-- What is written down of an Accept. -/
def tapeAcc (T : List UInt8) (x : Rec) (o o' : Option St) (T' : List UInt8) : Prop := (T' = T ∧ o' = o) ∨ (T' = T ++ encAcc x ∧ o' ≠ o ∧ (encAcc x).length ≤ 32)

theorem acc_short {E B : Nat → Int} {Q : Nat → List Wt} {ks : List Ky} (hf : FlowFit E B Q ks) {x : Rec} (hx : x.fits) (h : (accF E B Q ks x).2.isSome = true) : (encAcc x).length ≤ 32 := by
  unfold accF at h
  by_cases hb : recErr x ≠ 0
  · rw [if_pos hb] at h; cases h
  · rw [if_neg hb] at h
    have hgood : recErr x = 0 := by simpa using hb
    by_cases he : x.epoch < E x.session.toNat
    · rw [if_pos he] at h; cases h
    · rw [if_neg he] at h
      unfold recErr at hgood
      split at hgood
      · cases hgood
      · rename_i h1
        split at hgood
        · cases hgood
        · rename_i h2
          have hk : okKey x.key = true := by
            cases e : okKey x.key
            · exact absurd (.inl e) h2
            · rfl
          obtain ⟨f1, f2, f3, f4, _⟩ := hx
          unfold inInt at f1 f2 f3 f4
          have hq0 := qLens_nonneg Q 4
          have htot := hf.led.total
          have hba := hf.ba x.session.toNat (by omega)
          have hn : x.number ≤ 16000 := by
            unfold accH at h
            by_cases hn : ¬ (0 ≤ x.number ∧ x.number < tB E B x.session.toNat x.epoch + 4)
            · rw [if_pos hn] at h; cases h
            · have : tB E B x.session.toNat x.epoch ≤ 1000 := by
                unfold tB
                split
                · omega
                · omega
              omega
          have := encRec_len (x := x) (by omega) (by omega) hn hk (by omega)
          unfold encAcc
          simp only [List.length_cons]
          omega

theorem relT_accept {T : List UInt8} {w : World} {a : Addr} {o : Option St} {F : Nat → Prop} (x : Rec) (h : RelT T w a o F) (hTl : T.length ≤ 140737488330000) (hx : x.fits) : Calls Tryz.prog 11 #[.pointer (some a), x.value'] w fun e w' =>
    ∃ F' T', e = .returned (.tuple #[.int .i64 (accept? o x).1.1, .int .i64 (accept? o x).1.2]) ∧ RelT T' w' a (accept? o x).2 F' ∧ tapeAcc T x o (accept? o x).2 T' ∧ (∀ k, F' k → F k ∨ w.heap.size ≤ k) ∧ Chg F w w' := by
  obtain ⟨b, rfl, hb, h1, h2⟩ := h
  cases o with
  | none =>
    refine (accept_closed b x w h2).mono ?_
    rintro e w' ⟨rfl, g1, g2⟩
    exact ⟨F, T, rfl, ⟨b, rfl, hb, fun k hk => Nat.lt_of_lt_of_le (h1 k hk) g2.size, g1⟩, .inl ⟨rfl, rfl⟩, fun k hk => .inl hk, g2.mono (fun k hk => by rw [hk]; exact hb)⟩
  | some s =>
    obtain ⟨h3, E, B, V, vk, vb, Q, ks, h4, h5, h6, h7, h8, h9, h10⟩ := h2
    obtain ⟨t1, t2, t3, t4, t5⟩ := accept_tie h6 h5 x hx
    have hsnd := sound_accept h10 (h6.fine h5) x
    refine (accept_open h3 h4 h5 (fun i hi => (h6.eps i hi).1) h8 hTl x hx).mono ?_
    rintro e w' ⟨rfl, g1, V', vk', vb', g2, g3, g4, g5, g6⟩
    refine ⟨fun k => F k ∨ (w.heap.size ≤ k ∧ k < w'.heap.size), _, by simp only [accept?]; rw [t1], ⟨b, rfl, .inl hb, fun k hk => ?_, g1, _, _, V', vk', vb', _, _, g2, t3, t2, fun k hk => ?_, g3, fun k hk => ?_, hsnd⟩, ?_, fun k hk => hk.imp id (fun h => h.1), g6.mono (fun k hk => ?_)⟩
    · rcases hk with hk | hk
      · exact Nat.lt_of_lt_of_le (h1 k hk) g6.size
      · exact hk.2
    · have hlt : k < w'.heap.size := by
        rcases hk with ⟨i, hi, hk⟩ | hk
        · exact ((g2.rows i hi).lt k hk).2
        · exact (g2.keys.lt k hk).2
      rcases g4 k hk with h | h
      · exact .inl (h7 k h)
      · exact .inr ⟨h, hlt⟩
    · rcases g5 k hk with h | h
      · exact .inl (h9 k h)
      · exact .inr ⟨h, (g3.row.lt k hk).2⟩
    · cases hch : (accF E B Q ks x).2.isSome with
      | false =>
        refine .inl ⟨rfl, ?_⟩
        have hn : (accF E B Q ks x).2 = none := by simpa using hch
        simp only [accept?]
        rw [t5 hn]
      | true =>
        refine .inr ⟨rfl, ?_, acc_short h5 hx hch⟩
        simp only [accept?]
        exact fun e => t4 hch (Option.some.inj e)
    · rcases hk with rfl | hk | hk
      · exact hb
      · exact h7 k hk
      · exact h9 k hk

theorem relT_close {T : List UInt8} {w : World} {a : Addr} {o : Option St} {F : Nat → Prop} (h : RelT T w a o F) : Calls Tryz.prog 17 #[.pointer (some a)] w fun e w' =>
    e = .returned (.int .i64 (errno? o)) ∧ RelT T w' a none F ∧ Chg F w w' := by
  obtain ⟨b, rfl, hb, h1, h2⟩ := h
  cases o with
  | none =>
    refine (close_done h2).mono ?_
    rintro e w' ⟨rfl, g1, g2⟩
    exact ⟨rfl, ⟨b, rfl, hb, fun k hk => Nat.lt_of_lt_of_le (h1 k hk) g2.size, g1⟩, g2.mono (fun k hk => by rw [hk]; exact hb)⟩
  | some s =>
    obtain ⟨h3, E, B, V, vk, vb, Q, ks, h4, h5, h6, h7, h8, h9, h10⟩ := h2
    refine (close_open h3 h4.cells h8.cell).mono ?_
    rintro e w' ⟨rfl, g1, g2⟩
    exact ⟨rfl, ⟨b, rfl, hb, fun k hk => Nat.lt_of_lt_of_le (h1 k hk) g2.size, g1⟩, g2.mono (fun k hk => by rw [hk]; exact hb)⟩

theorem relT_state {T : List UInt8} {w : World} {a : Addr} {o : Option St} {F : Nat → Prop} (h : RelT T w a o F) : Calls Tryz.prog 15 #[.pointer (some a)] w fun e w' =>
    ∃ vs vk, e = .returned (.tuple #[.agg #[vs, vk], .int .i64 (errno? o)]) ∧ StateAt w' w.heap.size vs vk (state? o) ∧ RelT T w' a o F ∧ Chg F w w' := by
  obtain ⟨b, rfl, hb, h1, h2⟩ := h
  cases o with
  | none =>
    refine (state_closed b w h2).mono ?_
    rintro e w' ⟨rfl, g1, g2⟩
    exact ⟨_, _, rfl, ⟨⟨[], rfl, World.ownsRow_nil _ _ _ _, fun i l u hl => by simp [state?] at hl⟩, World.ownsRow_nil _ _ _ _⟩, ⟨b, rfl, hb, fun k hk => Nat.lt_of_lt_of_le (h1 k hk) g2.size, g1⟩, g2.mono (fun k hk => by rw [hk]; exact hb)⟩
  | some s =>
    obtain ⟨h3, E, B, V, vk, vb, Q, ks, h4, h5, h6, h7, h8, h9, h10⟩ := h2
    obtain ⟨S, _, hS⟩ := lanes_S h6
    refine (state_open h3 h4 (fun i hi => by have := h5.ql i hi; omega) h5.kl hS h8).mono ?_
    rintro e w' ⟨vs, vk', U, rfl, g1, g2, g3, _, g4, g5, g7, g6⟩
    refine ⟨vs, vk', rfl, ⟨⟨[U 0, U 1, U 2, U 3], ?_, ?_, fun i l u hl hu => ?_⟩, ?_⟩, ⟨b, rfl, hb, fun k hk => Nat.lt_of_lt_of_le (h1 k hk) g6.size, g4, E, B, V, vk, vb, Q, ks, g5, h5, h6, h7, g7, h9, h10⟩, g6.mono (fun k hk => by rw [hk]; exact hb)⟩
    · simp [state?, h6.four]
    · obtain ⟨l0, c0, p0⟩ := h6.lane 0 (by omega)
      obtain ⟨l1, c1, p1⟩ := h6.lane 1 (by omega)
      obtain ⟨l2, c2, p2⟩ := h6.lane 2 (by omega)
      obtain ⟨l3, c3, p3⟩ := h6.lane 3 (by omega)
      have h4' := h6.four
      simp only [state?]
      match hs : s.lanes, h4' with
      | [x0, x1, x2, x3], _ =>
        rw [hs] at c0 c1 c2 c3
        simp at c0 c1 c2 c3
        subst c0 c1 c2 c3
        simpa [sessCells, sessU, p0.ep, p0.ba, p1.ep, p1.ba, p2.ep, p2.ba, p3.ep, p3.ba] using g1
    · have hi : i < 4 := by
        have := (List.getElem?_eq_some_iff.1 hl).1
        simp only [state?] at this
        rw [h6.four] at this
        exact this
      have hu' : u = U i := by
        rcases (by omega : i = 0 ∨ i = 1 ∨ i = 2 ∨ i = 3) with rfl | rfl | rfl | rfl <;> simp at hu <;> exact hu.symm
      obtain ⟨l', c, p⟩ := h6.lane i hi
      have : l' = l := by simp only [state?] at hl; rw [hl] at c; exact (Option.some.inj c).symm
      subst this
      have := g2 i hi
      rw [nums_tie p.up p.perm, p.perm.length_eq] at this
      rw [hu']
      unfold ints' at this
      rw [List.map_map] at this
      exact this
    · simp only [state?]
      rw [h6.keys]; exact g3

theorem relT_fine {T : List UInt8} {w : World} {a : Addr} {s : St} {F : Nat → Prop} (h : RelT T w a (some s) F) : s.fine := by
  obtain ⟨b, _, _, _, h⟩ := h
  obtain ⟨_, E, B, V, vk, vb, Q, ks, _, h5, h6, _⟩ := h
  exact h6.fine h5

theorem relT_good {T : List UInt8} {w : World} {a : Addr} {s : St} {F : Nat → Prop} (h : RelT T w a (some s) F) : s.good := by
  obtain ⟨b, _, _, _, h⟩ := h
  obtain ⟨_, E, B, V, vk, vb, Q, ks, _, h5, h6, _⟩ := h
  refine ⟨by rw [h6.keys]; exact h5.kl, by rw [h6.keys]; exact h5.led.sorted, fun l hl => ?_⟩
  obtain ⟨i, hi, e⟩ := List.getElem_of_mem hl
  have hi4 : i < 4 := by rw [← h6.four]; exact hi
  obtain ⟨l', g1, g2⟩ := h6.lane i hi4
  have : l' = l := by rw [List.getElem?_eq_getElem hi, e] at g1; exact (Option.some.inj g1).symm
  subst this
  exact ⟨g2.up, fun y hy => by rw [g2.ba]; exact g2.win y hy⟩

theorem relT_puts {T : List UInt8} {w : World} {a : Addr} {o : Option St} {F : Nat → Prop} (h : RelT T w a o F) : Calls Tryz.prog 19 #[.pointer (some a)] w fun e w' =>
    ∃ vp, e = .returned (.tuple #[vp, .int .i64 (errno? o)]) ∧ w'.ownsRow w.heap.size 68 3 vp (puts? o).length (putCells (puts? o)) ∧ RelT T w' a o F ∧ Chg F w w' := by
  obtain ⟨b, rfl, hb, h1, h2⟩ := h
  cases o with
  | none =>
    refine (puts_closed b w h2).mono ?_
    rintro e w' ⟨rfl, g1, g2⟩
    exact ⟨_, rfl, World.ownsRow_nil _ _ _ _, ⟨b, rfl, hb, fun k hk => Nat.lt_of_lt_of_le (h1 k hk) g2.size, g1⟩, g2.mono (fun k hk => by rw [hk]; exact hb)⟩
  | some s =>
    obtain ⟨h3, E, B, V, vk, vb, Q, ks, h4, h5, h6, h7, h8, h9, h10⟩ := h2
    refine (puts_open h3 h4 h5.kl h8).mono ?_
    rintro e w' ⟨vp, rfl, g1, g2, g3, g5, g4⟩
    refine ⟨vp, rfl, ?_, ⟨b, rfl, hb, fun k hk => Nat.lt_of_lt_of_le (h1 k hk) g4.size, g2, E, B, V, vk, vb, Q, ks, g3, h5, h6, h7, g5, h9, h10⟩, g4.mono (fun k hk => by rw [hk]; exact hb)⟩
    simp only [puts?]
    rw [h6.keys]
    exact g1

/-- What is written down of an Answer. -/
def tapeAnsw (T : List UInt8) (key : ByteArray) (n : Int) (o o' : Option St) (T' : List UInt8) : Prop := (T' = T ∧ o' = o) ∨ (T' = T ++ encAns key n ∧ o' ≠ o ∧ (encAns key n).length ≤ 32)

theorem ans_ch {E B : Nat → Int} {Q : Nat → List Wt} {ks : List Ky} {s : St} (h : Ties E B Q ks s) (hf : FlowFit E B Q ks) (key : ByteArray) (n : Int) (hn : inInt n) :
    (ansCh ks key n = false → (Go.Proofs.YthedkdbgfdjlkaaGreat.answer s key n).2 = s) ∧ (ansCh ks key n = true → (Go.Proofs.YthedkdbgfdjlkaaGreat.answer s key n).2 ≠ s ∧ (encAns key n).length ≤ 32) := by
  unfold ansCh Go.Proofs.YthedkdbgfdjlkaaGreat.answer
  rw [h.keys]
  by_cases hok : okKey key = false
  · rw [if_pos hok, if_pos hok]
    exact ⟨fun _ => rfl, fun hh => by cases hh⟩
  · rw [if_neg hok, if_neg hok]
    have hok' : okKey key = true := by simpa using hok
    cases hk : findKy key ks with
    | none => exact ⟨fun _ => rfl, fun hh => by cases hh⟩
    | some k =>
      simp only
      by_cases hb : n < 0 ∨ k.count < n
      · rw [if_pos hb, if_pos hb]
        exact ⟨fun _ => rfl, fun hh => by cases hh⟩
      · rw [if_neg hb, if_neg hb]
        rcases hold_same key n hk with ⟨h1, h2⟩ | h2
        · refine ⟨fun _ => by simp only; rw [h2, ← h.keys], fun hh => ?_⟩
          simp at hh
          omega
        · refine ⟨fun hh => ?_, fun _ => ⟨fun e => ?_, ?_⟩⟩
          · simp at hh
            have h3 : holdKy key n ks = ks := by
              have : ∀ {l : List Ky} {k : Ky}, findKy key l = some k → n ≤ k.held → holdKy key n l = l := by
                intro l
                induction l with
                | nil => intro k hk; simp [findKy] at hk
                | cons y r ih =>
                  intro k hk hle
                  unfold findKy at hk
                  unfold holdKy
                  split at hk
                  · rename_i hy
                    obtain rfl : y = k := by simpa using hk
                    rw [if_pos hy, show max y.held n = y.held by omega]
                  · rename_i hy
                    rw [if_neg hy, ih hk hle]
              exact this hk hh
            rw [h3] at h2
            omega
          · have := congrArg St.keys e
            simp only at this
            rw [this, h.keys] at h2
            omega
          · have hm := findKy_in hk
            have hq0 := qLens_nonneg Q 4
            have htot := hf.led.total
            have hc := (count_le hf.led.count k hm.1).1
            have l1 := encKey_len hok'
            have l2 := encInt_len2 (z := n) (by omega)
            unfold encAns
            simp only [List.length_cons, List.length_append]
            omega

theorem relT_answer {T : List UInt8} {w : World} {a : Addr} {o : Option St} {F : Nat → Prop} (key : ByteArray) (n : Int) (h : RelT T w a o F) (hTl : T.length ≤ 140737488330000) (hkey : key.size ≤ maxLen) (hn : inInt n) : Calls Tryz.prog 21 #[.pointer (some a), .string key, .int .i64 n] w fun e w' =>
    ∃ F' T', e = .returned (.int .i64 (answer? o key n).1) ∧ RelT T' w' a (answer? o key n).2 F' ∧ tapeAnsw T key n o (answer? o key n).2 T' ∧ (∀ k, F' k → F k ∨ w.heap.size ≤ k) ∧ Chg F w w' := by
  obtain ⟨b, rfl, hb, h1, h2⟩ := h
  cases o with
  | none =>
    refine (answer_closed b key n w h2).mono ?_
    rintro e w' ⟨rfl, g1, g2⟩
    exact ⟨F, T, rfl, ⟨b, rfl, hb, fun k hk => Nat.lt_of_lt_of_le (h1 k hk) g2.size, g1⟩, .inl ⟨rfl, rfl⟩, fun k hk => .inl hk, g2.mono (fun k hk => by rw [hk]; exact hb)⟩
  | some s =>
    obtain ⟨h3, E, B, V, vk, vb, Q, ks, h4, h5, h6, h7, h8, h9, h10⟩ := h2
    obtain ⟨t1, t2, t3⟩ := ansF_fit h6 h5 key n
    obtain ⟨u1, u2⟩ := ans_ch h6 h5 key n hn
    have hq0 := qLens_nonneg Q 4
    have htot := h5.led.total
    have hsnd := sound_answer h10 key n
    refine (answer_open h3 h4 h5.led.sorted h5.kl (fun k hk => ?_) h8 hTl key n hkey hn).mono ?_
    · have h8 := h6.held k hk
      have h9 := (count_le h5.led.count k hk).1
      omega
    · rintro e w' ⟨rfl, g1, g2, ⟨vb', g4, g5⟩, g3⟩
      refine ⟨fun k => F k ∨ (w.heap.size ≤ k ∧ k < w'.heap.size), _, by simp only [answer?]; rw [t1], ⟨b, rfl, .inl hb, fun k hk => ?_, g1, E, B, V, vk, vb', Q, _, g2, t2, t3, fun k hk => .inl (h7 k hk), g4, fun k hk => ?_, hsnd⟩, ?_, fun k hk => hk.imp id (fun h => h.1), g3.mono (fun k hk => ?_)⟩
      · rcases hk with hk | hk
        · exact Nat.lt_of_lt_of_le (h1 k hk) g3.size
        · exact hk.2
      · rcases g5 k hk with h | h
        · exact .inl (h9 k h)
        · exact .inr ⟨h, (g4.row.lt k hk).2⟩
      · cases hch : ansCh ks key n with
        | false =>
          refine .inl ⟨rfl, ?_⟩
          simp only [answer?]
          rw [u1 hch]
        | true =>
          refine .inr ⟨rfl, ?_, (u2 hch).2⟩
          simp only [answer?]
          exact fun e => (u2 hch).1 (Option.some.inj e)
      · rcases hk with rfl | hk | hk
        · exact hb
        · exact h7 k (.inr hk)
        · exact h9 k hk

end Go.Proofs.YthedkdbgfdjlkaaGreat

/- Shrink; the program's calls, counted by the length of the bytes. -/
namespace Go.Proofs.YthedkdbgfdjlkaaGreat
set_option linter.unusedVariables false
set_option linter.unusedSimpArgs false
open Go.RowKit Go.Lib Go.Conc.Locks

section
variable {E B : Nat → Int} {Q : Nat → List Wt} {ks : List Ky} {s : St}

theorem keys_plain (h : Ties E B Q ks s) (hf : FlowFit E B Q ks) (hs : s.sound) : ∀ k ∈ ks, k.plain ∧ okKey k.name = true ∧ k.count ≤ 1000 ∧ k.fold ≤ 4294967295 ∧ k.held ≤ 1000 := by
  intro k hk
  have hq0 := qLens_nonneg Q 4
  have htot := hf.led.total
  have hc := (count_le hf.led.count k hk).1
  have hh := h.held k hk
  have hfo := hf.led.fold k hk
  have hn : okKey k.name = true := hs.kname k (by rw [h.keys]; exact hk)
  have hsz := okKey_size hn
  exact ⟨⟨by omega, by omega, by omega, by omega⟩, hn, by omega, by omega, by omega⟩

theorem recs_plain (h : Ties E B Q ks s) (hf : FlowFit E B Q ks) (hs : s.sound) : ∀ x ∈ s.recs, x.plain ∧ x.session ≤ 127 ∧ x.epoch ≤ 9223372036854775807 ∧ x.number ≤ 16000 ∧ okKey x.key = true ∧ x.value ≤ 4294967295 := by
  intro x hx
  obtain ⟨j, l, y, h1, h2, h3⟩ := mem_recsFrom hx
  have hj : j < 4 := by rw [← h.four]; exact (List.getElem?_eq_some_iff.1 h1).1
  obtain ⟨l', g1, g2⟩ := h.lane j hj
  have : l' = l := by rw [h1] at g1; exact (Option.some.inj g1).symm
  subst this
  have hq0 := qLens_nonneg Q 4
  have htot := hf.led.total
  have he := h.eps j hj
  have hb := hf.ba j hj
  have hw := g2.win y h2
  obtain ⟨w1, w2, w3⟩ := hs.wt l' (List.mem_of_getElem? h1) y h2
  have hsz := okKey_size w1
  have hep := g2.ep
  rw [h3]
  refine ⟨⟨?_, ?_, ?_, ?_, ?_⟩, ?_, ?_, ?_, w1, ?_⟩ <;> simp only <;> omega

theorem head_short (h : Ties E B Q ks s) (hf : FlowFit E B Q ks) (hs : s.sound) : (encHead s).length ≤ 512 := by
  have hk := keys_plain h hf hs
  have hr := recs_plain h hf hs
  have hq0 := qLens_nonneg Q 4
  have htot := hf.led.total
  have l1 : (s.lanes.flatMap encSess).length ≤ 4 * 11 := by
    have := flat_len encSess 11 (l := s.lanes) (fun l hl => by
      have hfi := (h.fine hf).lane l hl
      have a1 := encInt_len9 (z := l.epoch) (by omega)
      have a2 := encInt_len2 (z := l.base) (by omega)
      unfold encSess encInts
      simp only [List.flatMap_cons, List.flatMap_nil, List.append_nil, List.length_append]
      omega)
    rw [h.four] at this
    exact this
  have l2 : (s.keys.flatMap encKy).length ≤ 4 * 16 := by
    have h1 := flat_len encKy 16 (l := s.keys) (fun k hk' => by
      rw [h.keys] at hk'
      obtain ⟨_, b1, b2, b3, b4⟩ := hk k hk'
      have a1 := encKey_len b1
      have a2 := encInt_len2 (z := k.count) (by omega)
      have a3 := encInt_len5 (z := k.fold) (by omega)
      have a4 := encInt_len2 (z := k.held) (by omega)
      unfold encKy encInts
      simp only [List.flatMap_cons, List.flatMap_nil, List.append_nil, List.length_append]
      omega)
    have h2 : s.keys.length ≤ 4 := by rw [h.keys]; exact hf.kl
    exact Nat.le_trans h1 (Nat.mul_le_mul_right _ h2)
  have l3 : s.recs.length ≤ 12 := by
    obtain ⟨S, hS1, hS⟩ := lanes_S h
    have hr := (recsU_lanes h hS1).2
    have : (recsU E S 4).length ≤ 12 := by
      have e : ∀ i, i < 4 → (S i).length ≤ 3 := fun i hi => by rw [(hS i hi).2.length_eq.symm]; exact hf.ql i hi
      have e0 := e 0 (by omega); have e1 := e 1 (by omega); have e2 := e 2 (by omega); have e3 := e 3 (by omega)
      simp [recsU]; omega
    rw [hr] at this
    exact this
  have l4 : (s.recs.flatMap encRec).length ≤ 12 * 24 := by
    have h1 := flat_len encRec 24 (l := s.recs) (fun x hx => by
      obtain ⟨_, b1, b2, b3, b4, b5⟩ := hr x hx
      exact encRec_len b1 b2 b3 b4 b5)
    exact Nat.le_trans h1 (Nat.mul_le_mul_right _ l3)
  have l5 := encInt_len1 (z := (s.keys.length : Int)) (by rw [h.keys]; have := hf.kl; omega)
  have l6 := encInt_len1 (z := (s.recs.length : Int)) (by omega)
  have l7 : markB.length = 8 := rfl
  unfold encHead
  simp only [List.length_append]
  omega
end

def tapeShr (T : List UInt8) : Option St → List UInt8
  | none => T
  | some s => encHead s

theorem relT_shrink {T : List UInt8} {w : World} {a : Addr} {o : Option St} {F : Nat → Prop} (h : RelT T w a o F) : Calls Tryz.prog 30 #[.pointer (some a)] w fun e w' =>
    ∃ F', e = .returned (.int .i64 (errno? o)) ∧ RelT (tapeShr T o) w' a o F' ∧ (∀ k, F' k → F k ∨ w.heap.size ≤ k) ∧ Chg F w w' := by
  obtain ⟨b, rfl, hb, h1, h2⟩ := h
  cases o with
  | none =>
    refine (shrink_closed b w h2).mono ?_
    rintro e w' ⟨rfl, g1, g2⟩
    exact ⟨F, rfl, ⟨b, rfl, hb, fun k hk => Nat.lt_of_lt_of_le (h1 k hk) g2.size, g1⟩, fun k hk => .inl hk, g2.mono (fun k hk => by rw [hk]; exact hb)⟩
  | some s =>
    obtain ⟨h3, E, B, V, vk, vb, Q, ks, h4, h5, h6, h7, h8, h9, h10⟩ := h2
    obtain ⟨S, hS1, hS⟩ := lanes_S h6
    obtain ⟨e1, e2⟩ := recsU_lanes h6 hS1
    have hq0 := qLens_nonneg Q 4
    have htot := h5.led.total
    refine (shrink_open h3 h4 h8 (fun i hi => by have := h5.ql i hi; omega) h5.kl hS h6.eps (fun i hi => by have := h5.ba i hi; omega) (fun k hk => (keys_plain h6 h5 h10 k hk).1) (fun x hx => (recs_plain h6 h5 h10 x (by rw [← e2]; exact hx)).1)).mono ?_
    rintro e w' ⟨rfl, g1, g2, ⟨vb', g3, g4⟩, g5⟩
    rw [e1] at g3
    refine ⟨fun k => F k ∨ (w.heap.size ≤ k ∧ k < w'.heap.size), rfl, ⟨b, rfl, .inl hb, fun k hk => ?_, g1, E, B, V, vk, vb', Q, ks, g2, h5, h6, fun k hk => .inl (h7 k hk), g3, fun k hk => .inr ⟨g4 k hk, (g3.row.lt k hk).2⟩, h10⟩, fun k hk => hk.imp id (fun h => h.1), g5.mono (fun k hk => by rw [hk]; exact hb)⟩
    rcases hk with hk | hk
    · exact Nat.lt_of_lt_of_le (h1 k hk) g5.size
    · exact hk.2

theorem relT_short {T : List UInt8} {w : World} {a : Addr} {s : St} {F : Nat → Prop} (h : RelT T w a (some s) F) : (encHead s).length ≤ 512 := by
  obtain ⟨b, _, _, _, h⟩ := h
  obtain ⟨_, E, B, V, vk, vb, Q, ks, _, h5, h6, _, _, _, h10⟩ := h
  exact head_short h6 h5 h10

theorem init_short : (encHead St.init).length ≤ 512 := by
  have e : (encHead St.init).length = 18 := by
    simp [encHead, St.init, Ln.init, St.recs, recsFrom, encSess, encInts, encInt, markB, encNum_small]
  omega

theorem apiN : ApiN RelN := by
  refine ⟨fun ⟨T, _, h⟩ hk => relT_lt h hk, fun ⟨T, h1, h⟩ hs => ⟨T, h1, relT_stable h hs⟩, fun ⟨T, h1, h⟩ hm => ⟨T, by omega, h⟩, fun ⟨T, _, h⟩ => relT_fine h, fun w => ?_, fun x hR hn hx => ?_, fun hR => ?_, fun hR => ?_⟩
  · exact (relT_new w).mono fun e w' ⟨a, F, h1, h2, h3, h4⟩ => ⟨a, F, h1, ⟨_, init_short, h2⟩, h3, h4⟩
  · obtain ⟨T, hT, h⟩ := hR
    refine (relT_accept x h (by unfold roomy at hn; omega) hx).mono ?_
    rintro e w' ⟨F', T', h1, h2, h3, h4, h5⟩
    rcases h3 with ⟨rfl, e1⟩ | ⟨rfl, e1, e2⟩
    · exact ⟨F', _, h1, ⟨_, hT, h2⟩, h4, h5, by omega, fun _ => rfl⟩
    · exact ⟨F', _, h1, ⟨_, by rw [List.length_append]; exact Nat.add_le_add hT e2, h2⟩, h4, h5, Nat.le_refl _, fun e => absurd e e1⟩
  · obtain ⟨T, hT, h⟩ := hR
    refine (relT_state h).mono ?_
    rintro e w' ⟨vs, vk, h1, h2, h3, h4⟩
    exact ⟨vs, vk, h1, h2, ⟨T, hT, h3⟩, h4⟩
  · obtain ⟨T, hT, h⟩ := hR
    refine (relT_close h).mono ?_
    rintro e w' ⟨h1, h2, h3⟩
    exact ⟨h1, ⟨T, hT, h2⟩, h3⟩

theorem apiSN : ApiSN RelN := by
  refine ⟨fun hR => ?_, fun key n hR hm hk hn => ?_⟩
  · obtain ⟨T, hT, h⟩ := hR
    refine (relT_puts h).mono ?_
    rintro e w' ⟨vp, h1, h2, h3, h4⟩
    exact ⟨vp, h1, h2, ⟨T, hT, h3⟩, h4⟩
  · obtain ⟨T, hT, h⟩ := hR
    refine (relT_answer key n h (by unfold roomy at hm; omega) hk hn).mono ?_
    rintro e w' ⟨F', T', h1, h2, h3, h4, h5⟩
    rcases h3 with ⟨rfl, e1⟩ | ⟨rfl, e1, e2⟩
    · exact ⟨F', _, h1, ⟨_, hT, h2⟩, h4, h5, by omega, fun _ => rfl⟩
    · exact ⟨F', _, h1, ⟨_, by rw [List.length_append]; exact Nat.add_le_add hT e2, h2⟩, h4, h5, Nat.le_refl _, fun e => absurd e e1⟩

theorem apiB : ApiB RelN := by
  refine ⟨fun ⟨T, _, h⟩ => relT_good h, fun key n hR hm hk hn => ?_, fun hR => ?_⟩
  · obtain ⟨T, hT, h⟩ := hR
    refine (relT_answer key n h (by unfold roomy at hm; omega) hk hn).mono ?_
    rintro e w' ⟨F', T', h1, h2, h3, h4, h5⟩
    obtain ⟨g1, g2⟩ := answer_but _ key n
    refine ⟨F', _, _, h1, ⟨T', ?_, h2⟩, g1, g2, h4, h5⟩
    rcases h3 with ⟨rfl, _⟩ | ⟨rfl, _, e2⟩
    · omega
    · rw [List.length_append]; omega
  · obtain ⟨T, hT, h⟩ := hR
    have hs := relT_short h
    refine (relT_shrink h).mono ?_
    rintro e w' ⟨F', h1, h2, h3, h4⟩
    exact ⟨F', _, h1, ⟨_, hs, h2⟩, h3, h4⟩

end Go.Proofs.YthedkdbgfdjlkaaGreat
