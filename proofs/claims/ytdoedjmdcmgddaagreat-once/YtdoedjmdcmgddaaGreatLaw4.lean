/- Anew, WALKED. -/
import Derived.Test.YtdoedjmdcmgddaaGreatLaw2
import Derived.Test.YtdoedjmdcmgddaaGreatLaw3
import Derived.Test.YtdoedjmdcmgddaaGreatP2
namespace Go.Proofs.YtdoedjmdcmgddaaGreat
set_option linter.unusedVariables false
set_option linter.unusedSimpArgs false
open Go.RowKit

variable {R : World → Addr → Option St → (Nat → Prop) → Prop}

/-- A script in memory. -/
structure ScriptAt (w : World) (v : Value) (L : List Stp) : Prop where
  val : ∃ p cap, v = .slice p L.length cap
  len : L.length ≤ 9223372036854775807
  cells : ∀ i x, L[i]? = some x → ∃ sb so cap, v = .slice (some ⟨sb, so, none⟩) L.length cap ∧ w.cell? ⟨sb, so + i * 8, none⟩ = some (.int .i64 x.kind) ∧ w.cell? ⟨sb, so + i * 8 + 1, none⟩ = some (.int .i64 x.x.session) ∧
    w.cell? ⟨sb, so + i * 8 + 2, none⟩ = some (.int .i64 x.x.epoch) ∧ w.cell? ⟨sb, so + i * 8 + 3, none⟩ = some (.int .i64 x.x.number) ∧ w.cell? ⟨sb, so + i * 8 + 4, none⟩ = some (.string x.x.key) ∧ w.cell? ⟨sb, so + i * 8 + 5, none⟩ = some (.int .i64 x.x.value) ∧
    w.cell? ⟨sb, so + i * 8 + 6, none⟩ = some (.string x.key) ∧ w.cell? ⟨sb, so + i * 8 + 7, none⟩ = some (.int .i64 x.n)
  fits : ∀ x ∈ L, x.x.fits
  more : ∀ x ∈ L, inInt x.kind ∧ inInt x.n ∧ x.key.size ≤ maxLen

def exC : ByteArray := { data := #[99] }

/-- What an Accept of a new epoch's first record answers. -/
theorem anew_accept {s : St} (hf : s.fine) {k : Nat} (hk : k < 4) {l : Ln} (hl : s.lanes[k]? = some l) {e v : Int} (he : l.epoch < e) (hv : 0 ≤ v ∧ v ≤ 4294967295) :
    accept s ⟨k, e, 0, exC, v⟩ = ((0, 6), s) ∨ accept s ⟨k, e, 0, exC, v⟩ = ((0, 7), s) ∨ accept s ⟨k, e, 0, exC, v⟩ = ((1, 0), ⟨s.lanes.set k ⟨e, 1, []⟩, takeKy exC v s.keys⟩) := by
  have hA : accept s ⟨k, e, 0, exC, v⟩ = acceptIn s k l ⟨k, e, 0, exC, v⟩ := by
    unfold accept
    rw [if_neg (by simp only; omega), if_neg (by simp only; rintro (h | h | h) <;> first | exact absurd h (by decide) | omega)]
    simp only [Int.toNat_natCast, hl]
  rw [hA]
  unfold acceptIn
  rw [if_neg (by simp only; omega)]
  have ht : l.turned e = ⟨e, 0, []⟩ := by unfold Ln.turned; rw [if_pos he]
  simp only [ht]
  rw [if_neg (by omega), if_neg (by simp)]
  by_cases h6 : isIn exC (⟨s.lanes.set k ⟨e, 0, []⟩, s.keys⟩ : St).names = false ∧ 4 ≤ distinct (⟨s.lanes.set k ⟨e, 0, []⟩, s.keys⟩ : St).names
  · rw [if_pos h6]; exact .inl rfl
  · rw [if_neg h6]
    by_cases h7 : 1000 ≤ (⟨s.lanes.set k ⟨e, 0, []⟩, s.keys⟩ : St).records
    · rw [if_pos h7]; exact .inr (.inl rfl)
    · rw [if_neg h7]
      refine .inr (.inr ?_)
      simp [putW, drainW]

theorem old_accept {s : St} {k : Nat} (hk : k < 4) {l : Ln} (hl : s.lanes[k]? = some l) {e v : Int} (he : e < l.epoch) (hv : 0 ≤ v ∧ v ≤ 4294967295) : accept s ⟨k, e, 0, exC, v⟩ = ((0, 4), s) := by
  unfold accept
  rw [if_neg (by simp only; omega), if_neg (by simp only; rintro (h | h | h) <;> first | exact absurd h (by decide) | omega)]
  simp only [Int.toNat_natCast, hl]
  unfold acceptIn
  rw [if_pos he]

theorem keys_le : ∀ {ks : List Ky}, (∀ k ∈ ks, 1 ≤ k.count) → (ks.length : Int) ≤ counts ks
  | [], _ => by simp [counts]
  | k :: r, h => by
    have := keys_le (ks := r) (fun y hy => h y (by simp [hy]))
    have := h k (by simp)
    simp [counts]; omega

theorem waits_ge : ∀ {ls : List Ln}, 0 ≤ waits ls ∧ ∀ l ∈ ls, (l.ws.length : Int) ≤ waits ls
  | [] => by simp [waits]
  | l :: r => by
    obtain ⟨h1, h2⟩ := waits_ge (ls := r)
    refine ⟨by simp [waits]; omega, fun y hy => ?_⟩
    rcases List.mem_cons.1 hy with rfl | hy
    · simp [waits]; omega
    · have := h2 y hy; simp [waits]; omega

theorem St.fine.small {s : St} (h : s.fine) : 0 ≤ counts s.keys ∧ counts s.keys ≤ 1000 ∧ s.lanes.length ≤ 1000 ∧ s.keys.length ≤ 1000 ∧ ∀ l ∈ s.lanes, l.ws.length ≤ 1000 := by
  have h1 := keys_le (fun k hk => (h.key k hk).1)
  obtain ⟨h2, h3⟩ := waits_ge (ls := s.lanes)
  have h4 := h.total
  unfold St.records at h4
  refine ⟨by omega, by omega, by rw [h.four]; omega, by omega, fun l hl => by have := h3 l hl; omega⟩

theorem counts_upto : ∀ {ks : List Ky}, (∀ k ∈ ks, 1 ≤ k.count) → ∀ (j : Nat), 0 ≤ counts (ks.take j) ∧ counts (ks.take j) ≤ counts ks
  | [], _, j => by simp [counts]
  | k :: r, h, 0 => by
    have := keys_le h
    simp [counts] at this ⊢; omega
  | k :: r, h, j + 1 => by
    have := counts_upto (ks := r) (fun y hy => h y (by simp [hy])) j
    have := h k (by simp)
    simp [counts]; omega

theorem counts_next : ∀ (ks : List Ky) (j : Nat) (x : Ky), ks[j]? = some x → counts (ks.take (j + 1)) = counts (ks.take j) + x.count
  | [], j, x, h => by simp at h
  | k :: r, 0, x, h => by simp at h; subst h; simp [counts]
  | k :: r, j + 1, x, h => by
    have := counts_next r j x (by simpa using h)
    simp [counts] at this ⊢; omega

/-- Calls one behind another, seen from the first. -/
theorem Chg.chain {F G : Nat → Prop} {w w1 w2 : World} (h : Chg F w w1) (hG : ∀ k, G k → F k ∨ w.heap.size ≤ k) (c : Chg G w1 w2) : Chg F w w2 :=
  h.trans c (fun n hn g => (hG n g).resolve_right (by omega))

theorem chain_own {F G G' : Nat → Prop} {w w1 : World} (hs : w.heap.size ≤ w1.heap.size) (hG : ∀ k, G k → F k ∨ w.heap.size ≤ k) (h : ∀ k, G' k → G k ∨ w1.heap.size ≤ k) : ∀ k, G' k → F k ∨ w.heap.size ≤ k :=
  fun k hk => (h k hk).elim (hG k) (fun h1 => .inr (Nat.le_trans hs h1))

set_option maxRecDepth 100000 in
set_option maxHeartbeats 4000000 in
theorem anew_walk (H : Api R) (w : World) (v : Value) (L : List Stp) (se by' va : Int) (hS : ScriptAt w v L) (hse : inInt se) (hby : inInt by') (hva : inInt va) :
    Calls Tryz.prog 5 #[v, .int .i64 se, .int .i64 by', .int .i64 va] w fun e w' => e = .returned (.bool true) ∧ Chg (fun _ => False) w w' := by
  obtain ⟨pv, cv, rfl⟩ := hS.val
  have hlen := hS.len
  have hnot : ∀ (x : Bool) (w : World), (Op.unary .not (.bool x)).run Tryz.prog w = .ok (.bool (!x)) w := fun _ _ => rfl
  go_enter Tryz.func5, Tryz.ntmps5
  go_wp2_with fail
  refine (taking_any H w).mono ?_
  rintro _ w1 ⟨rfl, c1⟩
  go_wp2_with fail
  refine (H.new w1).mono ?_
  rintro _ w2 ⟨a, F2, rfl, hR2, hF2, c2⟩
  have c02 : Chg (fun _ => False) w w2 := c1.trans c2 (fun _ _ h => h)
  have hF02 : ∀ k, F2 k → w.heap.size ≤ k := fun k hk => Nat.le_trans c1.size (hF2 k hk)
  clear c1 c2 hF2
  go_wp2_with fail
  go_loopw [11] (fun si wr => ∃ (k : Nat) (s : St) (F : Nat → Prop), si = .int .i64 k ∧ k ≤ L.length ∧ R wr a (some s) F ∧ (∀ k, F k → w.heap.size ≤ k) ∧ Chg (fun _ => False) w wr) (fun si _ => L.length - (intOf si).toNat)
  case atStart => exact ⟨0, _, F2, rfl, by omega, hR2, hF02, c02⟩
  case round =>
    obtain ⟨k, s, F, rfl, hk, hR, hFw, hc⟩ := hrel
    clear hR2 hF02 c02
    by_cases hkl : k < L.length
    · obtain ⟨x, hx⟩ : ∃ x, L[k]? = some x := ⟨_, List.getElem?_eq_getElem hkl⟩
      obtain ⟨sb, so, cap, hv, y0, y1, y2, y3, y4, y5, y6, y7⟩ := hS.cells k x hx
      simp only [Value.slice.injEq] at hv
      obtain ⟨rfl, _, rfl⟩ := hv
      replace y0 := hc.cellAt y0 id
      replace y1 := hc.cellAt y1 id
      replace y2 := hc.cellAt y2 id
      replace y3 := hc.cellAt y3 id
      replace y4 := hc.cellAt y4 id
      replace y5 := hc.cellAt y5 id
      replace y6 := hc.cellAt y6 id
      replace y7 := hc.cellAt y7 id
      have hkl' : (k : Int) < (L.length : Int) := by omega
      have hxf := hS.fits x (List.mem_of_getElem? hx)
      by_cases hk0 : x.kind = 0
      · rw [hk0] at y0
        have hdo := does_accept H x hk0 hR hxf
        unfold Stp.value' at hdo
        rw [hk0] at hdo
        go_wp2_with fail
        refine hdo.mono ?_
        rintro _ w3 ⟨F3, rfl, hR3, hF3, c3⟩
        clear hdo y0 y1 y2 y3 y4 y5 y6 y7
        go_wp2_with fail
        go_roundw
        case rel => exact ⟨k + 1, _, F3, by go_num, by omega, hR3, hc.young hFw hF3, hc.step c3 hFw⟩
        case measure => simp [intOf]; omega
      · have hk0' : (x.kind == 0) = false := by simpa using hk0
        go_wp2_with fail
        go_roundw
        case rel => exact ⟨k + 1, s, F, by go_num, by omega, hR, hFw, hc⟩
        case measure => simp [intOf]; omega
    · have hkl' : ¬ (k : Int) < (L.length : Int) := by omega
      have hf := H.fine hR
      have hp4 := pickI_range (c := se) (n := 4) (by omega)
      obtain ⟨kn, ekn⟩ : ∃ kn : Nat, pickI se 4 = kn := ⟨(pickI se 4).toNat, by omega⟩
      have hkn : kn < 4 := by omega
      have hpk := pick_any se 4 wr hse (by omega) (by omega)
      rw [ekn] at hpk
      have hp1000 := pickI_range (c := by') (n := 1000) (by omega)
      have hpv := pickI_range (c := va) (n := 4294967296) (by omega)
      obtain ⟨PB, ePB⟩ : ∃ PB, PB = pickI by' 1000 := ⟨_, rfl⟩
      obtain ⟨PV, ePV⟩ : ∃ PV, PV = pickI va 4294967296 := ⟨_, rfl⟩
      have HB : Hid (∀ W, Calls Tryz.prog 11 #[.int .i64 by', .int .i64 1000] W fun e w' => e = .returned (.int .i64 PB) ∧ w' = W) := fun W => by rw [ePB]; exact pick_any by' 1000 W hby (by omega) (by omega)
      have HV : Hid (∀ W, Calls Tryz.prog 11 #[.int .i64 va, .int .i64 4294967296] W fun e w' => e = .returned (.int .i64 PV) ∧ w' = W) := fun W => by rw [ePV]; exact pick_any va 4294967296 W hva (by omega) (by omega)
      rw [← ePB] at hp1000
      rw [← ePV] at hpv
      obtain ⟨l, hl⟩ : ∃ l, s.lanes[kn]? = some l := ⟨_, List.getElem?_eq_getElem (by rw [hf.four]; exact hkn)⟩
      have hlf := hf.lane l (List.mem_of_getElem? hl)
      clear hp4 ekn ePB ePV
      go_wp2_with fail
      refine hpk.mono ?_
      rintro _ wp ⟨rfl, ewp⟩
      rw [ewp]
      clear hpk ewp wp
      go_wp2_with fail
      refine (H.state hR).mono ?_
      rintro _ w3 ⟨vs, vk, rfl, hs3, hR3, c3⟩
      simp only [errno?, state?] at hs3 ⊢
      obtain ⟨us, hu1, hu2, hu3⟩ := hs3.sess
      have hk3 := hs3.keys
      rw [hf.four] at hu1 hu2
      obtain ⟨g, cap, rfl, hg, hcap, hcell⟩ := row_pos hu2 (by omega)
      obtain ⟨pk, ck, rfl⟩ := row_any hk3
      obtain ⟨u, hu⟩ : ∃ u, us[kn]? = some u := ⟨_, List.getElem?_eq_getElem (by omega)⟩
      have x1 := sessCells_at _ _ _ _ _ hl hu
      have z0 : ∀ ob, (w3.alloc ob).cell? ⟨g, kn * 3, none⟩ = some (.int .i64 l.epoch) := fun ob => ((Chg.refl (fun _ => False) w3).alloc ob).cellAt (hcell _ _ x1.1) id
      have hkn' : (kn : Int) < 4 := by omega
      clear hcell x1 hu1 hu2 hu3
      have hFr : ∀ k, F k → k < wr.heap.size := fun k hk => H.lt hR hk
      have cw3 : Chg (fun _ => False) w w3 := hc.step c3 hFw
      by_cases hmax : l.epoch = 9223372036854775807
      · rw [hmax] at z0
        have hlt : wrap64 (wrap64 9223372036854775808 + PB) < 9223372036854775807 := by unfold wrap64; omega
        go_wp2_with fail
        refine (HB.out _).mono ?_
        rintro _ wp ⟨rfl, ewp⟩
        rw [ewp]
        clear ewp wp
        go_wp2_with fail
        go_ret
        exact ⟨rfl, cw3.alloc _⟩
      by_cases hbig : l.epoch + 1 + PB ≤ 9223372036854775807
      · have hnlt : ¬ l.epoch + 1 + PB < l.epoch := by omega
        go_wp2_with fail
        refine (HB.out _).mono ?_
        rintro _ wp ⟨rfl, ewp⟩
        rw [ewp]
        clear ewp wp HB
        go_wp2_with fail
        refine (HV.out _).mono ?_
        rintro _ wp ⟨rfl, ewp⟩
        rw [ewp]
        clear ewp wp HV
        have hPV : 0 ≤ PV ∧ PV ≤ 4294967295 := by omega
        obtain ⟨NE, hNE⟩ : ∃ NE, NE = l.epoch + 1 + PB := ⟨_, rfl⟩
        rw [← hNE] at hbig hnlt ⊢
        have hNE1 : l.epoch < NE := by omega
        clear hNE hnlt hmax hp1000 hpv
        obtain ⟨W4, hW4⟩ : ∃ W4, W4 = (w3.alloc (Obj.cells #[.slice (some ⟨g, 0, none⟩) 4 cap, .slice pk s.keys.length ck] 52)).alloc (Obj.cells #[.int .i64 kn, .int .i64 NE, .int .i64 0, .string { data := #[99] }, .int .i64 PV] 37) := ⟨_, rfl⟩
        have c34 : Chg (fun _ => False) w3 W4 := by rw [hW4]; exact ((Chg.refl _ w3).alloc _).alloc _
        have hs4 : W4.heap.size = w3.heap.size + 2 := by rw [hW4]; simp
        have s0 : W4.cell? ⟨w3.heap.size, 0, none⟩ = some (.slice (some ⟨g, 0, none⟩) 4 cap) := by rw [hW4]; exact ((Chg.refl (fun _ => False) _).alloc _).cellAt (World.cell?_alloc_at _ _ _ _ rfl) id
        have s1 : W4.cell? ⟨w3.heap.size, 1, none⟩ = some (.slice pk s.keys.length ck) := by rw [hW4]; exact ((Chg.refl (fun _ => False) _).alloc _).cellAt (World.cell?_alloc_at _ _ _ _ rfl) id
        have x0 : W4.cell? ⟨w3.heap.size + 1, 0, none⟩ = some (.int .i64 kn) := by rw [hW4]; exact World.cell?_alloc_at _ _ _ _ (by simp)
        have x1 : W4.cell? ⟨w3.heap.size + 1, 1, none⟩ = some (.int .i64 NE) := by rw [hW4]; exact World.cell?_alloc_at _ _ _ _ (by simp)
        have x2 : W4.cell? ⟨w3.heap.size + 1, 2, none⟩ = some (.int .i64 0) := by rw [hW4]; exact World.cell?_alloc_at _ _ _ _ (by simp)
        have x3 : W4.cell? ⟨w3.heap.size + 1, 3, none⟩ = some (.string { data := #[99] }) := by rw [hW4]; exact World.cell?_alloc_at _ _ _ _ (by simp)
        have x4 : W4.cell? ⟨w3.heap.size + 1, 4, none⟩ = some (.int .i64 PV) := by rw [hW4]; exact World.cell?_alloc_at _ _ _ _ (by simp)
        have xf : W4.frozen? ⟨w3.heap.size + 1, 1, none⟩ = false := by rw [hW4]; exact World.frozen?_alloc_at _ _ _ _ (by simp)
        have HS4 : Hid (W4.heap.size = w3.heap.size + 2) := hs4
        have hw3 : wr.heap.size ≤ w3.heap.size := c3.size
        have hsm := hf.small
        have hacc := H.accept ⟨kn, NE, 0, exC, PV⟩ (H.keep hR3 c34) ⟨by unfold inInt; simp only; omega, by unfold inInt; simp only; omega, by unfold inInt; simp only; omega, by unfold inInt; simp only; omega, (show exC.size ≤ maxLen by decide)⟩
        go_wp2_with fail
        rw [← hW4]
        clear hW4 hs4
        refine hacc.mono ?_
        rintro _ w5 ⟨F5, rfl, hR5, hF5, c45⟩
        clear hacc
        simp only [accept?] at hR5 ⊢
        rcases anew_accept hf hkn hl hNE1 hPV with e | e | e
        · rw [e] at hR5 ⊢
          simp only at hR5 ⊢
          go_wp2_with fail
          refine (H.state hR5).mono ?_
          rintro _ w6 ⟨vs6, vk6, rfl, hs6, hR6, c56⟩
          simp only [errno?, state?] at hs6 ⊢
          have c46 : Chg F W4 w6 := c45.chain hF5 c56
          have c36 : Chg F w3 w6 := (c34.mono (fun _ h => h.elim)).trans c46 (fun _ _ h => h)
          have hs36 := hs3.kept c36 (fun k hk => .inl (by have := hFr k hk; omega))
          obtain ⟨_, _, r6, _⟩ := hs6.sess
          obtain ⟨p6, cp6, rfl⟩ := row_any r6
          obtain ⟨pk6, ck6, rfl⟩ := row_any hs6.keys
          rw [hf.four] at hs6 ⊢
          have d0 : ∀ ob, (w6.alloc ob).cell? ⟨w3.heap.size, 0, none⟩ = some (.slice (some ⟨g, 0, none⟩) 4 cap) := fun ob => ((Chg.refl (fun _ => False) w6).alloc ob).cellAt (c46.cellAt s0 (fun h => by have := hFr _ h; omega)) id
          have d1 : ∀ ob, (w6.alloc ob).cell? ⟨w3.heap.size, 1, none⟩ = some (.slice pk s.keys.length ck) := fun ob => ((Chg.refl (fun _ => False) w6).alloc ob).cellAt (c46.cellAt s1 (fun h => by have := hFr _ h; omega)) id
          have hss := fun ob => sameState_eq (hs36.kept ((Chg.refl (fun _ => False) w6).alloc ob) (fun _ h => h.elim)) (hs6.kept ((Chg.refl (fun _ => False) w6).alloc ob) (fun _ h => h.elim)) hsm.2.2.1 hsm.2.2.2.1 hsm.2.2.2.2
          clear hs36 r6
          go_wp2_with fail
          refine (hss _).mono ?_
          rintro _ w8 ⟨rfl, c78⟩
          clear hss d0 d1
          go_wp2_with fail
          go_ret
          exact ⟨rfl, ((cw3.step c36 hFw).alloc _).trans c78 (fun _ _ h => h)⟩
        · rw [e] at hR5 ⊢
          simp only at hR5 ⊢
          go_wp2_with fail
          refine (H.state hR5).mono ?_
          rintro _ w6 ⟨vs6, vk6, rfl, hs6, hR6, c56⟩
          simp only [errno?, state?] at hs6 ⊢
          have c46 : Chg F W4 w6 := c45.chain hF5 c56
          have c36 : Chg F w3 w6 := (c34.mono (fun _ h => h.elim)).trans c46 (fun _ _ h => h)
          have hs36 := hs3.kept c36 (fun k hk => .inl (by have := hFr k hk; omega))
          obtain ⟨_, _, r6, _⟩ := hs6.sess
          obtain ⟨p6, cp6, rfl⟩ := row_any r6
          obtain ⟨pk6, ck6, rfl⟩ := row_any hs6.keys
          rw [hf.four] at hs6 ⊢
          have d0 : ∀ ob, (w6.alloc ob).cell? ⟨w3.heap.size, 0, none⟩ = some (.slice (some ⟨g, 0, none⟩) 4 cap) := fun ob => ((Chg.refl (fun _ => False) w6).alloc ob).cellAt (c46.cellAt s0 (fun h => by have := hFr _ h; omega)) id
          have d1 : ∀ ob, (w6.alloc ob).cell? ⟨w3.heap.size, 1, none⟩ = some (.slice pk s.keys.length ck) := fun ob => ((Chg.refl (fun _ => False) w6).alloc ob).cellAt (c46.cellAt s1 (fun h => by have := hFr _ h; omega)) id
          have hss := fun ob => sameState_eq (hs36.kept ((Chg.refl (fun _ => False) w6).alloc ob) (fun _ h => h.elim)) (hs6.kept ((Chg.refl (fun _ => False) w6).alloc ob) (fun _ h => h.elim)) hsm.2.2.1 hsm.2.2.2.1 hsm.2.2.2.2
          clear hs36 r6
          go_wp2_with fail
          refine (hss _).mono ?_
          rintro _ w8 ⟨rfl, c78⟩
          clear hss d0 d1
          go_wp2_with fail
          go_ret
          exact ⟨rfl, ((cw3.step c36 hFw).alloc _).trans c78 (fun _ _ h => h)⟩
        · rw [e] at hR5 ⊢
          simp only at hR5 ⊢
          obtain ⟨T, hT⟩ : ∃ T, T = (⟨s.lanes.set kn ⟨NE, 1, []⟩, takeKy exC PV s.keys⟩ : St) := ⟨_, rfl⟩
          have hTl : T.lanes[kn]? = some ⟨NE, 1, []⟩ := by rw [hT]; simp [hf.four, hkn]
          have hTk : counts T.keys = counts s.keys + 1 := by rw [hT]; exact counts_takeKy _ _ _
          rw [← hT] at hR5
          clear hT
          have hfT := H.fine hR5
          have hsmT := hfT.small
          have hF5l : ∀ k, F5 k → k < w5.heap.size := fun k hk => H.lt hR5 hk
          go_wp2_with fail
          refine (H.state hR5).mono ?_
          rintro _ w6 ⟨vs6, vk6, rfl, hs6, hR6, c56⟩
          simp only [errno?, state?] at hs6 ⊢
          have c46 : Chg F W4 w6 := c45.chain hF5 c56
          have h45 := c45.size
          have h56 := c56.size
          obtain ⟨us6, hu6, r6, q6⟩ := hs6.sess
          rw [hfT.four] at r6 hu6
          obtain ⟨g6, cap6, rfl, hg6, hcap6, hcell6⟩ := row_pos r6 (by omega)
          have hk6 := hs6.keys
          obtain ⟨pk6, ck6, rfl⟩ := row_any hk6
          obtain ⟨u6, hu6'⟩ : ∃ u, us6[kn]? = some u := ⟨_, List.getElem?_eq_getElem (by omega)⟩
          have y6 := sessCells_at _ _ _ _ _ hTl hu6'
          have t6 := q6 kn _ u6 hTl hu6'
          obtain ⟨pu6, cu6, rfl⟩ := row_any t6
          have hxF : ¬ F (w3.heap.size + 1) := fun h => by have := hFr _ h; omega
          have e0 : ∀ ob, (w6.alloc ob).cell? ⟨w3.heap.size + 1, 0, none⟩ = some (.int .i64 kn) := fun ob => ((Chg.refl (fun _ => False) w6).alloc ob).cellAt (c46.cellAt x0 hxF) id
          have e1 : ∀ ob, (w6.alloc ob).cell? ⟨w3.heap.size + 1, 1, none⟩ = some (.int .i64 NE) := fun ob => ((Chg.refl (fun _ => False) w6).alloc ob).cellAt (c46.cellAt x1 hxF) id
          have e2 : ∀ ob, (w6.alloc ob).cell? ⟨w3.heap.size + 1, 2, none⟩ = some (.int .i64 0) := fun ob => ((Chg.refl (fun _ => False) w6).alloc ob).cellAt (c46.cellAt x2 hxF) id
          have e3 : ∀ ob, (w6.alloc ob).cell? ⟨w3.heap.size + 1, 3, none⟩ = some (.string { data := #[99] }) := fun ob => ((Chg.refl (fun _ => False) w6).alloc ob).cellAt (c46.cellAt x3 hxF) id
          have e4 : ∀ ob, (w6.alloc ob).cell? ⟨w3.heap.size + 1, 4, none⟩ = some (.int .i64 PV) := fun ob => ((Chg.refl (fun _ => False) w6).alloc ob).cellAt (c46.cellAt x4 hxF) id
          have hb4 : w3.heap.size + 1 < W4.heap.size := by rw [HS4.out]; omega
          have ef : ∀ ob, (w6.alloc ob).frozen? ⟨w3.heap.size + 1, 1, none⟩ = false := fun ob => (World.frozen?_of_block (w := W4) ((c46.mono (fun _ h => h) : Chg F W4 w6).trans ((Chg.refl (fun _ => False) w6).alloc ob) (fun _ _ h => h.elim) |>.block (w3.heap.size + 1) hb4 hxF)).trans xf
          obtain ⟨W7, hW7⟩ : ∃ W7, W7 = (w6.alloc (Obj.cells #[.slice (some ⟨g6, 0, none⟩) 4 cap6, .slice pk6 T.keys.length ck6] 52)).setCell ⟨w3.heap.size + 1, 1, none⟩ (.int .i64 l.epoch) := ⟨_, rfl⟩
          have c67 : Chg (fun k => k = w3.heap.size + 1) w6 W7 := by rw [hW7]; exact ((Chg.refl (fun k => k = w3.heap.size + 1) w6).alloc _).setCell (p := ⟨w3.heap.size + 1, 1, none⟩) (fun _ => rfl) _
          have hs7 : W7.heap.size = w6.heap.size + 1 := by rw [hW7]; simp
          have hF5x : ∀ k, F5 k → k ≠ w3.heap.size + 1 := fun k hk e => by
            rcases hF5 k hk with h | h
            · have := hFr k h; omega
            · rw [HS4.out] at h; omega
          have hR7 : R W7 a (some T) F5 := H.stable hR6 (fun k hk => c67.block k (H.lt hR6 hk) (hF5x k hk))
          have hne6 : ¬ w6.heap.size = w3.heap.size + 1 := by rw [HS4.out] at h45; omega
          have tv0 : W7.cell? ⟨w6.heap.size, 0, none⟩ = some (.slice (some ⟨g6, 0, none⟩) 4 cap6) := by
            rw [hW7]; exact (World.cell?_setCell_other _ _ _ _ (fun e => hne6 (congrArg Addr.block e).symm)).trans (World.cell?_alloc_at _ _ _ _ rfl)
          have tv1 : W7.cell? ⟨w6.heap.size, 1, none⟩ = some (.slice pk6 T.keys.length ck6) := by
            rw [hW7]; exact (World.cell?_setCell_other _ _ _ _ (fun e => hne6 (congrArg Addr.block e).symm)).trans (World.cell?_alloc_at _ _ _ _ rfl)
          have xx0 : W7.cell? ⟨w3.heap.size + 1, 0, none⟩ = some (.int .i64 kn) := by rw [hW7]; exact (World.cell?_setCell_other _ _ _ _ (by simp)).trans (e0 _)
          have xx1 : W7.cell? ⟨w3.heap.size + 1, 1, none⟩ = some (.int .i64 l.epoch) := by rw [hW7]; exact World.cell?_setCell_same _ _ _ (e1 _)
          have xx2 : W7.cell? ⟨w3.heap.size + 1, 2, none⟩ = some (.int .i64 0) := by rw [hW7]; exact (World.cell?_setCell_other _ _ _ _ (by simp)).trans (e2 _)
          have xx3 : W7.cell? ⟨w3.heap.size + 1, 3, none⟩ = some (.string { data := #[99] }) := by rw [hW7]; exact (World.cell?_setCell_other _ _ _ _ (by simp)).trans (e3 _)
          have xx4 : W7.cell? ⟨w3.heap.size + 1, 4, none⟩ = some (.int .i64 PV) := by rw [hW7]; exact (World.cell?_setCell_other _ _ _ _ (by simp)).trans (e4 _)
          have HS7 : Hid (W7.heap.size = w6.heap.size + 1) := hs7
          have hacc := H.accept ⟨kn, l.epoch, 0, exC, PV⟩ hR7 ⟨by unfold inInt; simp only; omega, by unfold inInt; simp only; omega, by unfold inInt; simp only; omega, by unfold inInt; simp only; omega, (show exC.size ≤ maxLen by decide)⟩
          simp only [accept?] at hacc
          rw [old_accept hkn hTl hNE1 hPV] at hacc
          simp only at hacc
          clear x0 x1 x2 x3 x4 xf hs7
          go_wp2_with fail
          rw [← hW7]
          clear hW7 e0 e1 e2 e3 e4 ef
          refine hacc.mono ?_
          rintro _ w8 ⟨F8, rfl, hR8, hF8, c78⟩
          clear hacc
          have z78 := c78.size
          go_wp2_with fail
          refine (H.close hR8).mono ?_
          rintro _ w9 ⟨rfl, hR9, c89⟩
          simp only [errno?]
          have z89 := c89.size
          go_wp2_with fail
          refine (H.close hR9).mono ?_
          rintro _ w10 ⟨rfl, hR10, c910⟩
          simp only [errno?]
          have z910 := c910.size
          have c7_10 : Chg F5 W7 w10 := (c78.chain hF8 c89).chain hF8 c910
          replace xx0 := c7_10.cellAt xx0 (fun h => hF5x _ h rfl)
          replace xx1 := c7_10.cellAt xx1 (fun h => hF5x _ h rfl)
          replace xx2 := c7_10.cellAt xx2 (fun h => hF5x _ h rfl)
          replace xx3 := c7_10.cellAt xx3 (fun h => hF5x _ h rfl)
          replace xx4 := c7_10.cellAt xx4 (fun h => hF5x _ h rfl)
          have hacc := H.accept ⟨kn, l.epoch, 0, exC, PV⟩ hR10 ⟨by unfold inInt; simp only; omega, by unfold inInt; simp only; omega, by unfold inInt; simp only; omega, by unfold inInt; simp only; omega, (show exC.size ≤ maxLen by decide)⟩
          simp only [accept?] at hacc
          go_wp2_with fail
          refine hacc.mono ?_
          rintro _ w11 ⟨F11, rfl, hR11, hF11, c1011⟩
          clear hacc xx0 xx1 xx2 xx3 xx4
          have c7 : Chg F5 W7 w11 := c7_10.chain hF8 c1011
          have hlw5 : ∀ k, w5.heap.size ≤ k → ¬ F5 k := fun k h hk => by have := hF5l k hk; omega
          replace tv0 := c7.cellAt tv0 (hlw5 _ h56)
          replace tv1 := c7.cellAt tv1 (hlw5 _ h56)
          have hgx : ∀ k, w5.heap.size ≤ k → ¬ k = w3.heap.size + 1 := fun k h e => by rw [HS4.out] at h45; omega
          have m0 := c7.cellAt (c67.cellAt (hcell6 _ _ y6.1) (hgx _ hg6)) (hlw5 _ hg6)
          have m1 := c7.cellAt (c67.cellAt (hcell6 _ _ y6.2.1) (hgx _ hg6)) (hlw5 _ hg6)
          have m2 := c7.cellAt (c67.cellAt (hcell6 _ _ y6.2.2) (hgx _ hg6)) (hlw5 _ hg6)
          simp only [List.length_nil] at m2
          -- the first state, as it was told
          have c411 : Chg (fun k => F k ∨ k = w3.heap.size + 1) W4 w11 := (((c46.mono (fun _ h => .inl h)).trans c67 (fun _ _ h => .inr h)).trans c7 (fun n hn h => (hF5 n h).elim .inl (fun h => by omega)))
          have hsF : ¬ (F w3.heap.size ∨ w3.heap.size = w3.heap.size + 1) := by
            rintro (h | h)
            · have := hFr _ h; omega
            · omega
          have sv0 := c411.cellAt s0 hsF
          have sv1 := c411.cellAt s1 hsF
          have hkS : w11.ownsRow wr.heap.size 60 4 (.slice pk s.keys.length ck) s.keys.length (keyCells s.keys) := by
            refine c411.row' (c34.row' hk3 (fun _ _ h => h)) (fun k hk hf => ?_)
            have hb := hk3.lt k hk
            rcases hf with h | h
            · have := hFr _ h; omega
            · omega
          have hkT : w11.ownsRow w5.heap.size 60 4 (.slice pk6 T.keys.length ck6) T.keys.length (keyCells T.keys) := by
            refine c7.row' (c67.row' hk6 (fun k hk e => ?_)) (fun k hk => hlw5 k (hk6.lt k hk).1)
            exact hgx k (hk6.lt k hk).1 e
          have call : Chg (fun _ => False) w w11 := by
            refine (cw3.trans c34 (fun _ _ h => h)).trans c411 (fun n hn h => ?_)
            have := cw3.size
            rcases h with h | h
            · have := hFw n h; omega
            · omega
          clear hcell6 y6 t6 q6 r6 s0 s1 z0 hs3 hs6 hk3 hk6 hR hR3 hR5 hR6 hR7 hR8 hR9 hR10 hR11 c34 c45 c56 c46 c67 c78 c89 c910 c1011 c7_10 c7 c411 hF5 hF8 hF11 hF5x hF5l hlw5 hgx hsF c3 cw3 hc
          have hup := counts_upto (ks := s.keys) (fun k hk => (hf.key k hk).1)
          have hupT := counts_upto (ks := T.keys) (fun k hk => (hfT.key k hk).1)
          have HTK : Hid (counts T.keys = counts s.keys + 1) := hTk
          clear hTk
          go_wp2_with fail
          go_loopw [29, 31] (fun sn si wq => ∃ (j : Nat) (n : Int), si = .int .i64 j ∧ j ≤ s.keys.length ∧ sn = .int .i64 n ∧ Hid (n = counts (s.keys.take j)) ∧ Chg (fun _ => False) w11 wq) (fun _ si _ => s.keys.length - (intOf si).toNat)
          case atStart => exact ⟨0, 0, rfl, by omega, rfl, (show _ = _ by simp [counts]), Chg.refl _ _⟩
          case round =>
            obtain ⟨j, n, rfl, hj, rfl, HN, hcj⟩ := hrel
            have sw1 := hcj.cellAt sv1 id
            by_cases hjl : j < s.keys.length
            · obtain ⟨x, hx⟩ : ∃ x, s.keys[j]? = some x := ⟨_, List.getElem?_eq_getElem hjl⟩
              have cx := keyCells_at s.keys j x hx
              obtain ⟨gk, capk, hvk, _, _, hck⟩ := row_pos hkS (by omega)
              simp only [Value.slice.injEq] at hvk
              obtain ⟨rfl, _, rfl⟩ := hvk
              have p1 := hcj.cellAt (hck _ _ cx.2.1) id
              have hjl' : (j : Int) < (s.keys.length : Int) := by omega
              have hn := counts_next s.keys j x hx
              have hn1 := hup j
              have hn2 := hup (j + 1)
              have hnx : 0 ≤ n ∧ n ≤ 1000 ∧ 0 ≤ n + x.count ∧ n + x.count ≤ 1000 := by rw [HN.out]; omega
              clear hck cx hn1 hn2 hup hupT
              have HNX : Hid (counts (s.keys.take (j + 1)) = counts (s.keys.take j) + x.count) := hn
              clear hn
              go_wp2_with fail
              go_roundw
              case rel => exact ⟨j + 1, n + x.count, by go_num, by omega, by go_num, (show _ = _ by rw [HNX.out, HN.out]), hcj⟩
              case measure => simp [intOf]; omega
            · have hjl' : ¬ (j : Int) < (s.keys.length : Int) := by omega
              obtain rfl : j = s.keys.length := by omega
              have HN' : Hid (n = counts s.keys) := by show _ = _; rw [HN.out, List.take_length]
              have hn0 : 0 ≤ n ∧ n ≤ 1000 := by rw [HN'.out]; omega
              clear HN hup
              go_wp2_with fail
              go_loopw [30, 32] (fun sn si wq => ∃ (j : Nat) (m : Int), si = .int .i64 j ∧ j ≤ T.keys.length ∧ sn = .int .i64 m ∧ Hid (m = counts (T.keys.take j)) ∧ Chg (fun _ => False) w11 wq) (fun _ si _ => T.keys.length - (intOf si).toNat)
              case atStart => exact ⟨0, 0, rfl, by omega, rfl, (show _ = _ by simp [counts]), hcj⟩
              case round =>
                obtain ⟨j, m, rfl, hj, rfl, HM, hcm⟩ := hrel
                have tw1 := hcm.cellAt tv1 id
                by_cases hjl : j < T.keys.length
                · obtain ⟨x, hx⟩ : ∃ x, T.keys[j]? = some x := ⟨_, List.getElem?_eq_getElem hjl⟩
                  have cx := keyCells_at T.keys j x hx
                  obtain ⟨gk, capk, hvk, _, _, hck⟩ := row_pos hkT (by omega)
                  simp only [Value.slice.injEq] at hvk
                  obtain ⟨rfl, _, rfl⟩ := hvk
                  have p1 := hcm.cellAt (hck _ _ cx.2.1) id
                  have hjl' : (j : Int) < (T.keys.length : Int) := by omega
                  have hn := counts_next T.keys j x hx
                  have hn1 := hupT j
                  have hn2 := hupT (j + 1)
                  have hnx : 0 ≤ m ∧ m ≤ 1000 ∧ 0 ≤ m + x.count ∧ m + x.count ≤ 1000 := by rw [HM.out]; omega
                  clear hck cx hn1 hn2 hupT
                  have HNX : Hid (counts (T.keys.take (j + 1)) = counts (T.keys.take j) + x.count) := hn
                  clear hn
                  go_wp2_with fail
                  go_roundw
                  case rel => exact ⟨j + 1, m + x.count, by go_num, by omega, by go_num, (show _ = _ by rw [HNX.out, HM.out]), hcm⟩
                  case measure => simp [intOf]; omega
                · have hjl' : ¬ (j : Int) < (T.keys.length : Int) := by omega
                  obtain rfl : j = T.keys.length := by omega
                  have hm : m = n + 1 := by rw [HM.out, List.take_length, HTK.out, HN'.out]
                  subst hm
                  go_wp2_with fail
                  go_ret
                  exact ⟨rfl, call.trans hcm (fun _ _ h => h)⟩
      · have hlt : wrap64 (l.epoch + 1 + PB) < l.epoch := by unfold wrap64; omega
        go_wp2_with fail
        refine (HB.out _).mono ?_
        rintro _ wp ⟨rfl, ewp⟩
        rw [ewp]
        clear ewp wp
        go_wp2_with fail
        go_ret
        exact ⟨rfl, cw3.alloc _⟩

end Go.Proofs.YtdoedjmdcmgddaaGreat
