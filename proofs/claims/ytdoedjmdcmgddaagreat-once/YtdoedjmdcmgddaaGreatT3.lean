/- THE FLOW'S Accept IS THE DOCUMENT'S: no program text. -/
import Derived.Test.YtdoedjmdcmgddaaGreatT2
namespace Go.Proofs.YtdoedjmdcmgddaaGreat
set_option linter.unusedVariables false
set_option linter.unusedSimpArgs false
open Go.Lib

/-- A session in memory, and the document's. -/
structure LaneTie (e b : Int) (q : List Wt) (l : Ln) : Prop where
  ep : l.epoch = e
  ba : l.base = b
  up : Up l.ws
  perm : q.Perm l.ws
  heap : Hp q
  win : ∀ y ∈ l.ws, b < y.num ∧ y.num < b + 4

/-- A flow in memory, and the document's. -/
structure Ties (E B : Nat → Int) (Q : Nat → List Wt) (ks : List Ky) (s : St) : Prop where
  keys : s.keys = ks
  four : s.lanes.length = 4
  lane : ∀ i, i < 4 → ∃ l, s.lanes[i]? = some l ∧ LaneTie (E i) (B i) (Q i) l
  eps : ∀ i, i < 4 → 0 ≤ E i ∧ E i ≤ 9223372036854775807
  many : distinct s.names ≤ 4
  held : ∀ k ∈ ks, 1 ≤ k.count ∧ 0 ≤ k.held ∧ k.held ≤ k.count

variable {E B : Nat → Int} {Q : Nat → List Wt} {ks : List Ky} {s : St}

/-- The names that are there, whatever else. -/
theorem names_mem_of (hk : s.keys = ks) (h4 : s.lanes.length = 4) (hl : ∀ i, i < 4 → ∃ l, s.lanes[i]? = some l ∧ (Q i).Perm l.ws) (k : ByteArray) : k ∈ ks.map (·.name) ++ qNames Q 4 ↔ k ∈ s.names := by
  unfold St.names
  rw [List.mem_append, List.mem_append, hk, qNames_mem, List.mem_flatMap]
  refine or_congr_right ⟨?_, ?_⟩
  · rintro ⟨i, hi, y, hy, e⟩
    obtain ⟨l, h1, h2⟩ := hl i hi
    exact ⟨l, List.mem_of_getElem? h1, List.mem_map.2 ⟨y, h2.mem_iff.1 hy, e⟩⟩
  · rintro ⟨l, hl', hk'⟩
    obtain ⟨y, hy, e⟩ := List.mem_map.1 hk'
    obtain ⟨i, hi, e'⟩ := List.getElem_of_mem hl'
    obtain ⟨l', h1, h2⟩ := hl i (by omega)
    have : l' = l := by rw [List.getElem?_eq_getElem hi, e'] at h1; exact (Option.some.inj h1).symm
    subst this
    exact ⟨i, by omega, y, h2.mem_iff.2 hy, e⟩

theorem Ties.mem (h : Ties E B Q ks s) (k : ByteArray) : k ∈ ks.map (·.name) ++ qNames Q 4 ↔ k ∈ s.names :=
  names_mem_of h.keys h.four (fun i hi => (h.lane i hi).imp fun _ h => ⟨h.1, h.2.perm⟩) k

theorem records_of (hk : s.keys = ks) (h4 : s.lanes.length = 4) (hl : ∀ i, i < 4 → ∃ l, s.lanes[i]? = some l ∧ (Q i).Perm l.ws) : s.records = counts ks + qLens Q 4 := by
  unfold St.records
  rw [hk]
  obtain ⟨l0, g0, p0⟩ := hl 0 (by omega)
  obtain ⟨l1, g1, p1⟩ := hl 1 (by omega)
  obtain ⟨l2, g2, p2⟩ := hl 2 (by omega)
  obtain ⟨l3, g3, p3⟩ := hl 3 (by omega)
  match hs : s.lanes, h4 with
  | [a, b, c, d], _ =>
    rw [hs] at g0 g1 g2 g3
    simp at g0 g1 g2 g3
    subst g0 g1 g2 g3
    have := p0.length_eq; have := p1.length_eq; have := p2.length_eq; have := p3.length_eq
    simp [waits, qLens]
    omega

theorem Ties.records (h : Ties E B Q ks s) : s.records = counts ks + qLens Q 4 :=
  records_of h.keys h.four (fun i hi => (h.lane i hi).imp fun _ h => ⟨h.1, h.2.perm⟩)

theorem Ties.room (h : Ties E B Q ks s) (key : ByteArray) : roomErr key ks Q = if isIn key s.names = false ∧ 4 ≤ distinct s.names then 6 else if 1000 ≤ s.records then 7 else 0 := by
  unfold roomErr
  rw [h.records]
  have e : (4 ≤ (theNames ks Q).length ∧ ¬ key.data.toList ∈ theNames ks Q) ↔ (isIn key s.names = false ∧ 4 ≤ distinct s.names) := by
    rw [theNames_length' ks Q s.names h.mem, theNames_mem, h.mem, ← isIn_iff]
    constructor
    · rintro ⟨h1, h2⟩; exact ⟨by simpa using h2, h1⟩
    · rintro ⟨h1, h2⟩; exact ⟨h2, by simp [h1]⟩
  by_cases h1 : isIn key s.names = false ∧ 4 ≤ distinct s.names
  · rw [if_pos (e.2 h1), if_pos h1]
  · rw [if_neg (fun h => h1 (e.1 h)), if_neg h1]

theorem Ties.set (h : Ties E B Q ks s) {i : Nat} (hi : i < 4) {e' b' : Int} {q' : List Wt} {l' : Ln} {ks' : List Ky} (hl : LaneTie e' b' q' l') (he : 0 ≤ e' ∧ e' ≤ 9223372036854775807) (hm : distinct (⟨s.lanes.set i l', ks'⟩ : St).names ≤ 4) (hh : ∀ k ∈ ks', 1 ≤ k.count ∧ 0 ≤ k.held ∧ k.held ≤ k.count) :
    Ties (upd E i e') (upd B i b') (upd Q i q') ks' ⟨s.lanes.set i l', ks'⟩ := by
  refine ⟨rfl, by simp [h.four], fun j hj => ?_, fun j hj => ?_, hm, hh⟩
  · by_cases e : j = i
    · subst e
      simp only [upd_same]
      exact ⟨l', by simp [h.four, hj], hl⟩
    · simp only [upd_ne _ _ e]
      obtain ⟨l, h1, h2⟩ := h.lane j hj
      exact ⟨l, by simp only [List.getElem?_set]; rw [if_neg (fun e' => e e'.symm)]; exact h1, h2⟩
  · by_cases e : j = i
    · subst e; rw [upd_same]; exact he
    · rw [upd_ne _ _ e]; exact h.eps j hj

/-- A later epoch, or the same. -/
theorem LaneTie.turned {e b : Int} {q : List Wt} {l : Ln} (h : LaneTie e b q l) (ep : Int) : LaneTie (if e < ep then ep else e) (if e < ep then 0 else b) (if e < ep then [] else q) (l.turned ep) := by
  unfold Ln.turned
  rw [h.ep]
  by_cases hlt : e < ep
  · rw [if_pos hlt, if_pos hlt, if_pos hlt, if_pos hlt]
    exact ⟨rfl, rfl, by simp [Up], .refl _, by simp [Hp], by simp⟩
  · rw [if_neg hlt, if_neg hlt, if_neg hlt, if_neg hlt]
    exact h

/-- What is taken off the queue keeps the ledger. -/
theorem drain_led : ∀ (b : Int) (ws : List Wt) (ks : List Ky) (m : Int), 0 ≤ m → Led ks (m + ws.length) → (∀ y ∈ ws, y.ok) → Led (drainW b ws ks).2.2 (m + (drainW b ws ks).2.1.length)
  | b, [], ks, m, _, h, _ => by simpa [drainW] using h
  | b, x :: r, ks, m, hm, h, hok => by
    by_cases hb : x.num = b
    · simp only [drainW, if_pos hb]
      obtain ⟨⟨c, t, hk, hc⟩, hv⟩ := hok x (by simp)
      have := h.take (by simp; omega) hk hc hv
      refine drain_led (b + 1) r _ m hm ?_ (fun y hy => hok y (by simp [hy]))
      simpa [← Int.add_assoc] using this
    · simpa only [drainW, if_neg hb] using h

theorem drain_held : ∀ (b : Int) (ws : List Wt) (ks : List Ky), (∀ k ∈ ks, 1 ≤ k.count ∧ 0 ≤ k.held ∧ k.held ≤ k.count) → ∀ k ∈ (drainW b ws ks).2.2, 1 ≤ k.count ∧ 0 ≤ k.held ∧ k.held ≤ k.count
  | b, [], ks, h => by simpa [drainW] using h
  | b, x :: r, ks, h => by
    by_cases hb : x.num = b
    · simp only [drainW, if_pos hb]
      refine drain_held (b + 1) r _ (fun k hk => ?_)
      rcases mem_takeKy _ _ _ _ hk with h1 | ⟨y, hy, _, rfl⟩ | rfl
      · exact h k h1
      · have := h y hy; simp only [Ky.more]; omega
      · simp only [Ky.more]; omega
    · simpa only [drainW, if_neg hb] using h

theorem drain_names : ∀ (b : Int) (ws : List Wt) (ks : List Ky), ∀ k ∈ (drainW b ws ks).2.2, (∃ y ∈ ks, y.name = k.name) ∨ ∃ y ∈ ws, y.key = k.name
  | b, [], ks => fun k hk => .inl ⟨k, by simpa [drainW] using hk, rfl⟩
  | b, x :: r, ks => fun k hk => by
    by_cases hb : x.num = b
    · simp only [drainW, if_pos hb] at hk
      rcases drain_names (b + 1) r _ k hk with ⟨y, hy, e⟩ | ⟨y, hy, e⟩
      · rcases takeKy_name_mem _ _ _ _ hy with h1 | ⟨z, hz, e'⟩
        · exact .inr ⟨x, by simp, by rw [← h1, e]⟩
        · exact .inl ⟨z, hz, by rw [e', e]⟩
      · exact .inr ⟨y, by simp [hy], e⟩
    · simp only [drainW, if_neg hb] at hk
      exact .inl ⟨k, hk, rfl⟩

theorem qLens_upd (Q : Nat → List Wt) (i : Nat) (hi : i < 4) (q q' : List Wt) : qLens (upd Q i q') 4 - q'.length = qLens (upd Q i q) 4 - q.length := by
  simp only [qLens]
  rcases (by omega : i = 0 ∨ i = 1 ∨ i = 2 ∨ i = 3) with rfl | rfl | rfl | rfl <;> simp [upd] <;> omega

theorem qLens_nonneg (Q : Nat → List Wt) : ∀ n, 0 ≤ qLens Q n
  | 0 => by simp [qLens]
  | n + 1 => by have := qLens_nonneg Q n; simp [qLens]; omega

/-- What the flow's Accept answers is what the document says, and what it keeps too. -/
theorem accept_tie (h : Ties E B Q ks s) (hf : FlowFit E B Q ks) (x : Rec) (hx : x.fits) :
    (accept s x).1 = (accF E B Q ks x).1 ∧ Ties (nxE E x.session.toNat (accF E B Q ks x).2) (nxB B x.session.toNat (accF E B Q ks x).2) (nxQ Q x.session.toNat (accF E B Q ks x).2) (nxK ks (accF E B Q ks x).2) (accept s x).2 ∧
      FlowFit (nxE E x.session.toNat (accF E B Q ks x).2) (nxB B x.session.toNat (accF E B Q ks x).2) (nxQ Q x.session.toNat (accF E B Q ks x).2) (nxK ks (accF E B Q ks x).2) := by
  by_cases h1 : x.session < 0 ∨ 4 ≤ x.session
  · have e : recErr x = 2 := by unfold recErr; rw [if_pos h1]
    have ea : accept s x = ((0, 2), s) := by unfold accept; rw [if_pos h1]
    have ef : accF E B Q ks x = ((0, 2), none) := by unfold accF; rw [if_pos (by rw [e]; decide), e]
    rw [ea, ef]
    exact ⟨rfl, h, hf⟩
  by_cases h2 : okKey x.key = false ∨ x.value < 0 ∨ 4294967295 < x.value
  · have e : recErr x = 3 := by unfold recErr; rw [if_neg h1, if_pos h2]
    have ea : accept s x = ((0, 3), s) := by unfold accept; rw [if_neg h1, if_pos h2]
    have ef : accF E B Q ks x = ((0, 3), none) := by unfold accF; rw [if_pos (by rw [e]; decide), e]
    rw [ea, ef]
    exact ⟨rfl, h, hf⟩
  have e : recErr x = 0 := by unfold recErr; rw [if_neg h1, if_neg h2]
  have hi : x.session.toNat < 4 := by omega
  obtain ⟨i, hI⟩ : ∃ i, i = x.session.toNat := ⟨_, rfl⟩
  rw [← hI] at hi ⊢
  obtain ⟨l, hl, tl⟩ := h.lane i hi
  have hA : accept s x = acceptIn s i l x := by
    unfold accept
    rw [if_neg h1, if_neg h2, ← hI]
    simp only [hl]
  by_cases h3 : x.epoch < E i
  · have ea : accept s x = ((0, 4), s) := by rw [hA]; unfold acceptIn; rw [if_pos (by rw [tl.ep]; exact h3)]
    have ef : accF E B Q ks x = ((0, 4), none) := by unfold accF; rw [if_neg (fun h => h e), ← hI, if_pos h3]
    rw [ea, ef]
    exact ⟨rfl, h, hf⟩
  have hF : accF E B Q ks x = accH E B Q ks i x.epoch x.number x.key x.value := by unfold accF; rw [if_neg (fun h => h e), ← hI, if_neg h3]
  have tc := tl.turned x.epoch
  obtain ⟨c, hc⟩ : ∃ c, c = l.turned x.epoch := ⟨_, rfl⟩
  rw [← hc] at tc
  have hA2 : accept s x = (if x.number < 0 ∨ c.base + 4 ≤ x.number then ((0, 5), s) else if x.number < c.base ∨ c.ws.any (fun y => y.num == x.number) then ((c.base, 0), s) else
      if isIn x.key (⟨s.lanes.set i c, s.keys⟩ : St).names = false ∧ 4 ≤ distinct (⟨s.lanes.set i c, s.keys⟩ : St).names then ((0, 6), s) else if 1000 ≤ (⟨s.lanes.set i c, s.keys⟩ : St).records then ((0, 7), s) else
      (((drainW c.base (putW ⟨x.number, x.key, x.value⟩ c.ws) s.keys).1, 0), ⟨s.lanes.set i ⟨c.epoch, (drainW c.base (putW ⟨x.number, x.key, x.value⟩ c.ws) s.keys).1, (drainW c.base (putW ⟨x.number, x.key, x.value⟩ c.ws) s.keys).2.1⟩, (drainW c.base (putW ⟨x.number, x.key, x.value⟩ c.ws) s.keys).2.2⟩)) := by
    rw [hA, hc]
    unfold acceptIn
    rw [if_neg (by rw [tl.ep]; exact h3)]
  obtain ⟨TE, hTE⟩ : ∃ a, a = tE E i x.epoch := ⟨_, rfl⟩
  obtain ⟨TB, hTB⟩ : ∃ a, a = tB E B i x.epoch := ⟨_, rfl⟩
  obtain ⟨TQ, hTQ⟩ : ∃ a, a = tQ E Q i x.epoch := ⟨_, rfl⟩
  have tc' : LaneTie TE TB TQ c := by rw [hTE, hTB, hTQ]; exact tc
  clear tc
  unfold accH at hF
  rw [← hTE, ← hTB, ← hTQ] at hF
  simp only at hF
  rw [tc'.ba, h.keys] at hA2
  have hcq := counts_nonneg hf.led.count
  have hTB0 : 0 ≤ TB ∧ TB ≤ counts ks := by
    rw [hTB]; unfold tB
    split
    · omega
    · exact hf.ba i hi
  have hTE0 : 0 ≤ TE ∧ TE ≤ 9223372036854775807 := by
    have := h.eps i hi
    have := hx.epoch
    unfold inInt at this
    rw [hTE]; unfold tE
    split <;> omega
  have hTQm : ∀ y ∈ TQ, y ∈ Q i := fun y hy => by
    rw [hTQ] at hy; unfold tQ at hy
    split at hy
    · simp at hy
    · exact hy
  have hTQl : TQ.length ≤ 3 := by
    rw [hTQ]; unfold tQ
    split
    · simp
    · exact hf.ql i hi
  by_cases h4 : x.number < 0 ∨ TB + 4 ≤ x.number
  · rw [if_pos h4] at hA2
    rw [if_pos (show ¬ (0 ≤ x.number ∧ x.number < TB + 4) by omega)] at hF
    rw [hA2, hF]
    exact ⟨rfl, h, hf⟩
  rw [if_neg h4] at hA2
  rw [if_neg (show ¬ ¬ (0 ≤ x.number ∧ x.number < TB + 4) by omega)] at hF
  have hany : c.ws.any (fun y => y.num == x.number) = TQ.any (fun y => y.num == x.number) := by
    rw [Bool.eq_iff_iff, List.any_eq_true, List.any_eq_true]
    exact ⟨fun ⟨y, hy, e⟩ => ⟨y, tc'.perm.mem_iff.2 hy, e⟩, fun ⟨y, hy, e⟩ => ⟨y, tc'.perm.mem_iff.1 hy, e⟩⟩
  rw [hany] at hA2
  by_cases h5 : x.number < TB ∨ TQ.any (fun y => y.num == x.number) = true
  · rw [if_pos h5] at hA2 hF
    rw [hA2, hF]
    exact ⟨rfl, h, hf⟩
  rw [if_neg h5] at hA2 hF
  have hsub : ∀ k, k ∈ (⟨s.lanes.set i c, ks⟩ : St).names → k ∈ s.names := fun k hk => by
    rw [← h.mem]
    unfold St.names at hk
    simp only [List.mem_append, List.mem_flatMap] at hk ⊢
    rcases hk with hk | ⟨l', hl', hk⟩
    · exact .inl hk
    · rcases List.mem_or_eq_of_mem_set hl' with hl' | rfl
      · have : k ∈ s.names := by
          unfold St.names
          exact List.mem_append.2 (.inr (List.mem_flatMap.2 ⟨l', hl', hk⟩))
        rw [← h.mem] at this
        exact List.mem_append.1 this
      · obtain ⟨y, hy, e⟩ := List.mem_map.1 hk
        exact .inr ((qNames_mem Q k 4).2 ⟨i, hi, y, hTQm y (tc'.perm.mem_iff.2 hy), e⟩)
  have ht : Ties (upd E i TE) (upd B i TB) (upd Q i TQ) ks ⟨s.lanes.set i c, ks⟩ := h.set hi tc' hTE0 (Nat.le_trans (distinct_mono hsub) h.many) h.held
  have hroom := ht.room x.key
  obtain ⟨t, hT⟩ : ∃ t, t = (⟨s.lanes.set i c, ks⟩ : St) := ⟨_, rfl⟩
  rw [← hT] at hroom ht hA2
  by_cases h6 : isIn x.key t.names = false ∧ 4 ≤ distinct t.names
  · have er : roomErr x.key ks (upd Q i TQ) = 6 := by rw [hroom, if_pos h6]
    rw [if_pos h6] at hA2
    rw [if_pos (show roomErr x.key ks (upd Q i TQ) ≠ 0 by rw [er]; decide), er] at hF
    rw [hA2, hF]
    exact ⟨rfl, h, hf⟩
  rw [if_neg h6] at hA2
  by_cases h7 : 1000 ≤ t.records
  · have er : roomErr x.key ks (upd Q i TQ) = 7 := by rw [hroom, if_neg h6, if_pos h7]
    rw [if_pos h7] at hA2
    rw [if_pos (show roomErr x.key ks (upd Q i TQ) ≠ 0 by rw [er]; decide), er] at hF
    rw [hA2, hF]
    exact ⟨rfl, h, hf⟩
  have er : roomErr x.key ks (upd Q i TQ) = 0 := by rw [hroom, if_neg h6, if_neg h7]
  rw [if_neg h7] at hA2
  rw [if_neg (fun h => h er)] at hF
  rw [hA2, hF]
  clear hA2 hF hA hroom er
  obtain ⟨x0, hx0⟩ : ∃ x0 : Wt, x0 = ⟨x.number, x.key, x.value⟩ := ⟨_, rfl⟩
  rw [← hx0]
  have hok0 : x0.ok := by
    rw [hx0]
    refine ⟨?_, by simp only; omega⟩
    have hk : okKey x.key = true := by
      cases e : okKey x.key with
      | true => rfl
      | false => exact absurd (Or.inl e) h2
    unfold okKey at hk
    split at hk
    · cases hk
    · rename_i c' r' hl'
      simp at hk
      exact ⟨c', r', hl', hk.1⟩
  obtain ⟨u1, u2⟩ := up_heap TQ x0 hTQl tc'.heap
  have hnum : x0.num = x.number := by rw [hx0]
  have hkey : x0.key = x.key := by rw [hx0]
  obtain ⟨p1, p2⟩ := put_up x0 tc'.up (fun y hy e => h5 (.inr (by rw [← hany, List.any_eq_true]; exact ⟨y, hy, by rw [e, hnum]; simp⟩)))
  obtain ⟨q2, hq2⟩ : ∃ q2, q2 = upFn (TQ.length + 1) (TQ ++ [x0]) TQ.length := ⟨_, rfl⟩
  obtain ⟨P, hP⟩ : ∃ P, P = putW x0 c.ws := ⟨_, rfl⟩
  rw [← hq2] at u1 u2 ⊢
  rw [← hP] at p1 p2 ⊢
  have hqP : q2.Perm P := u2.trans ((List.Perm.cons x0 tc'.perm).trans p2.symm)
  have hql : q2.length = TQ.length + 1 := by simpa using u2.length_eq
  have hPl : P.length = TQ.length + 1 := by rw [← hqP.length_eq, hql]
  obtain ⟨d1, d2, d3, d4, d5⟩ := drain_tie 5 TB q2 P ks (by omega) (by omega) u1 p1 hqP
  have hPm : ∀ y ∈ P, y = x0 ∨ y ∈ TQ := fun y hy => by
    rcases List.mem_cons.1 (p2.mem_iff.1 hy) with h | h
    · exact .inl h
    · exact .inr (tc'.perm.mem_iff.2 h)
  have hPw : ∀ y ∈ P, TB ≤ y.num ∧ y.num < TB + 4 := fun y hy => by
    rcases List.mem_cons.1 (p2.mem_iff.1 hy) with h | h
    · rw [h, hnum]; omega
    · have := tc'.win y h; omega
  have hPok : ∀ y ∈ P, y.ok := fun y hy => by
    rcases hPm y hy with rfl | h
    · exact hok0
    · exact hf.wok i hi y (hTQm y h)
  obtain ⟨a1, a2, a3, a4, a5⟩ := drain_above TB P ks (TB + 4) p1 hPw
  have hrec := ht.records
  have hq0 := qLens_ge (upd Q i TQ) i hi
  rw [upd_same] at hq0
  have hLd : Led ks (qLens (upd Q i TQ) 4 - TQ.length + P.length) := ⟨hf.led.sorted, hf.led.first, hf.led.fold, hf.led.count, by rw [hPl]; simp; omega⟩
  have hL2 := drain_led TB P ks (qLens (upd Q i TQ) 4 - TQ.length) (by omega) hLd hPok
  have hH2 := drain_held TB P ks h.held
  have hN2 := drain_names TB P ks
  obtain ⟨DW, hDW⟩ : ∃ D, D = drainW TB P ks := ⟨_, rfl⟩
  obtain ⟨DH, hDH⟩ : ∃ D, D = drainH 5 TB q2 ks := ⟨_, rfl⟩
  rw [← hDW] at d1 d2 d4 d5 a1 a2 a3 a4 a5 hL2 hH2 hN2 ⊢
  rw [← hDH] at d1 d2 d3 d5 ⊢
  simp only [nxE, nxB, nxQ, nxK]
  have hul := qLens_upd Q i hi TQ DH.2.1
  have hdl := d5.length_eq
  have tn : LaneTie TE DH.1 DH.2.1 ⟨c.epoch, DW.1, DW.2.1⟩ := ⟨tc'.ep, d1.symm, d4, d5, d3, fun y hy => by have := a1 y hy; rw [d1]; omega⟩
  have hlanes : ∀ j, j < 4 → ∃ l, (s.lanes.set i ⟨c.epoch, DW.1, DW.2.1⟩)[j]? = some l ∧ (upd Q i DH.2.1 j).Perm l.ws := fun j hj => by
    by_cases e : j = i
    · subst e
      rw [upd_same]
      exact ⟨⟨c.epoch, DW.1, DW.2.1⟩, by simp [h.four, hj], d5⟩
    · rw [upd_ne _ _ e]
      obtain ⟨l, g1, g2⟩ := h.lane j hj
      exact ⟨l, by simp only [List.getElem?_set]; rw [if_neg (fun e' => e e'.symm)]; exact g1, g2.perm⟩
  have hsubN : ∀ k, k ∈ (⟨s.lanes.set i ⟨c.epoch, DW.1, DW.2.1⟩, DW.2.2⟩ : St).names → k ∈ x.key :: t.names := fun k hk => by
    rw [← names_mem_of (Q := upd Q i DH.2.1) (ks := DW.2.2) rfl (by simp [h.four]) hlanes, List.mem_append, qNames_mem, List.mem_map] at hk
    rw [List.mem_cons, ← ht.mem, List.mem_append, qNames_mem, List.mem_map]
    have hw : ∀ y ∈ P, y.key = k → k = x.key ∨ (∃ a, a ∈ ks ∧ a.name = k) ∨ ∃ j, j < 4 ∧ ∃ y ∈ upd Q i TQ j, y.key = k := fun y hy e => by
      rcases hPm y hy with rfl | h
      · exact .inl (by rw [← e, hkey])
      · exact .inr (.inr ⟨i, hi, y, by rw [upd_same]; exact h, e⟩)
    rcases hk with ⟨y, hy, e⟩ | ⟨j, hj, y, hy, e⟩
    · rcases hN2 y hy with ⟨z, hz, e'⟩ | ⟨z, hz, e'⟩
      · exact .inr (.inl ⟨z, hz, by rw [e', e]⟩)
      · exact hw z hz (by rw [e', e])
    · by_cases ej : j = i
      · subst ej
        rw [upd_same] at hy
        exact hw y (a5 y (d5.mem_iff.1 hy)) e
      · rw [upd_ne _ _ ej] at hy
        exact .inr (.inr ⟨j, hj, y, by rw [upd_ne _ _ ej]; exact hy, e⟩)
  have hmany : distinct (⟨s.lanes.set i ⟨c.epoch, DW.1, DW.2.1⟩, DW.2.2⟩ : St).names ≤ 4 := by
    refine Nat.le_trans (distinct_mono hsubN) ?_
    have := ht.many
    cases e : isIn x.key t.names with
    | true => simp [distinct, e]; omega
    | false =>
      have : ¬ 4 ≤ distinct t.names := fun h => h6 ⟨e, h⟩
      simp [distinct, e]; omega
  have hlen : DW.2.1.length ≤ 3 := by
    have := up_short DW.2.1 (DW.1 + 1) (DW.1 + 4) d4 (fun y hy => by have := a1 y hy; omega) (by omega)
    omega
  refine ⟨by rw [d1], ?_, ?_⟩
  · rw [d2]
    exact h.set hi tn hTE0 hmany hH2
  · rw [d2]
    refine ⟨fun j hj => ?_, ?_, ?_, fun j hj => ?_, fun j hj y hy => ?_⟩
    · by_cases e : j = i
      · subst e; rw [upd_same]; omega
      · rw [upd_ne _ _ e]; exact hf.ql j hj
    · have hnd : (DW.2.2.map (·.name)).Nodup := by
        rw [List.Nodup, List.pairwise_map]
        exact hL2.sorted.imp (fun {a b} hab e => by rw [e, less_irrefl] at hab; cases hab)
      have := nodup_le_distinct hnd (B := (⟨s.lanes.set i ⟨c.epoch, DW.1, DW.2.1⟩, DW.2.2⟩ : St).names) (fun k hk => by unfold St.names; exact List.mem_append.2 (.inl hk))
      rw [List.length_map] at this
      omega
    · have e : qLens (upd Q i TQ) 4 - TQ.length + DW.2.1.length = qLens (upd Q i DH.2.1) 4 := by rw [← hdl]; omega
      rw [← e]; exact hL2
    · by_cases e : j = i
      · subst e; rw [upd_same, d1, a4]; omega
      · rw [upd_ne _ _ e, a4]; have := hf.ba j hj; omega
    · by_cases e : j = i
      · subst e
        rw [upd_same] at hy
        exact hPok y (a5 y (d5.mem_iff.1 hy))
      · rw [upd_ne _ _ e] at hy; exact hf.wok j hj y hy

/-- What holds of every state. -/
theorem Ties.fine (h : Ties E B Q ks s) (hf : FlowFit E B Q ks) : s.fine := by
  have hq0 := qLens_nonneg Q 4
  have ht := hf.led.total
  refine ⟨h.four, fun l hl => ?_, by rw [h.records]; omega, by rw [h.keys]; exact h.held⟩
  obtain ⟨i, hi, e⟩ := List.getElem_of_mem hl
  have hi4 : i < 4 := by rw [← h.four]; exact hi
  obtain ⟨l', g1, g2⟩ := h.lane i hi4
  have : l' = l := by rw [List.getElem?_eq_getElem hi, e] at g1; exact (Option.some.inj g1).symm
  subst this
  rw [g2.ep, g2.ba]
  have := h.eps i hi4
  have := hf.ba i hi4
  omega

end Go.Proofs.YtdoedjmdcmgddaaGreat
