/- Bounded, WALKED. -/
import Derived.Test.YtdoedjmdcmgddaaGreatLaw5
import Derived.Deep.CutRange
import Derived.Laws.Strings
namespace Go.Proofs.YtdoedjmdcmgddaaGreat
set_option linter.unusedVariables false
set_option linter.unusedSimpArgs false
open Go.RowKit

variable {R : World → Addr → Option St → (Nat → Prop) → Prop}

theorem waits_upto : ∀ (ls : List Ln) (j : Nat), 0 ≤ waits (ls.take j) ∧ waits (ls.take j) ≤ waits ls
  | [], j => by simp [waits]
  | l :: r, 0 => by
    have := (waits_ge (ls := r)).1
    simp [waits]; omega
  | l :: r, j + 1 => by
    have := waits_upto r j
    simp [waits]; omega

theorem waits_next : ∀ (ls : List Ln) (j : Nat) (x : Ln), ls[j]? = some x → waits (ls.take (j + 1)) = waits (ls.take j) + x.ws.length
  | [], j, x, h => by simp at h
  | k :: r, 0, x, h => by simp at h; subst h; simp [waits]
  | k :: r, j + 1, x, h => by
    have := waits_next r j x (by simpa using h)
    simp [waits] at this ⊢; omega

set_option maxRecDepth 100000 in
set_option maxHeartbeats 8000000 in
theorem bounded_walk (H : Api R) (HB : ApiB R) (w : World) (v : Value) (L : List Stp) (hS : ScriptAt w v L) :
    Calls Tryz.prog 6 #[v] w fun e w' => e = .returned (.bool true) ∧ Chg (fun _ => False) w w' := by
  obtain ⟨pv, cv, rfl⟩ := hS.val
  have hlen := hS.len
  have hnot : ∀ (x : Bool) (w : World), (Op.unary .not (.bool x)).run Tryz.prog w = .ok (.bool (!x)) w := fun _ _ => rfl
  go_enter Tryz.func6, Tryz.ntmps6
  go_wp2_with fail
  refine (taking_any H w).mono ?_
  rintro _ w1 ⟨rfl, c1⟩
  go_wp2_with fail
  refine (H.new w1).mono ?_
  rintro _ w2 ⟨a, F2, rfl, hR2, hF2, c2⟩
  have c02 : Chg (fun _ => False) w w2 := c1.trans c2 (fun _ _ h => h)
  have hF02 : ∀ k, F2 k → w.heap.size ≤ k := fun k hk => Nat.le_trans c1.size (hF2 k hk)
  have hlt2 : ∀ k, F2 k → k < w2.heap.size := fun k hk => H.lt hR2 hk
  have hf2 := H.fine hR2
  clear c1 c2 hF2
  go_wp2_with fail
  refine (H.state hR2).mono ?_
  rintro _ w3 ⟨vs, vk, rfl, hs3, hR3, c3⟩
  simp only [errno?, state?] at hs3 ⊢
  obtain ⟨us, hu1, hu2, hu3⟩ := hs3.sess
  obtain ⟨ps, cs, rfl⟩ := row_any hu2
  obtain ⟨pk, ck, rfl⟩ := row_any hs3.keys
  have c03 : Chg (fun _ => False) w w3 := c02.step c3 hF02
  have hz3 := c3.size
  have hww := c03.size
  clear hu1 hu2 hu3
  obtain ⟨W3, hW3⟩ : ∃ W3, W3 = w3.alloc (Obj.cells #[.slice ps St.init.lanes.length cs, .slice pk St.init.keys.length ck] 52) := ⟨_, rfl⟩
  have c33 : Chg (fun _ => False) w3 W3 := by rw [hW3]; exact (Chg.refl _ w3).alloc _
  have b0 : W3.cell? ⟨w3.heap.size, 0, none⟩ = some (.slice ps St.init.lanes.length cs) := by rw [hW3]; exact World.cell?_alloc_at _ _ _ _ rfl
  have b1 : W3.cell? ⟨w3.heap.size, 1, none⟩ = some (.slice pk St.init.keys.length ck) := by rw [hW3]; exact World.cell?_alloc_at _ _ _ _ rfl
  have bf : ∀ j, W3.frozen? ⟨w3.heap.size, j, none⟩ = false := fun j => by rw [hW3]; exact World.frozen?_alloc_at _ _ _ _ rfl
  have hz33 : W3.heap.size = w3.heap.size + 1 := by rw [hW3]; simp
  have hR33 := H.keep hR3 c33
  have hs33 := hs3.kept c33 (fun _ h => h.elim)
  obtain ⟨bs, hbs⟩ : ∃ bs, bs = w3.heap.size := ⟨_, rfl⟩
  have HW3 : Hid (W3 = w3.alloc (Obj.cells #[.slice ps St.init.lanes.length cs, .slice pk St.init.keys.length ck] 52)) := hW3
  clear hW3
  go_wp2_with fail
  go_loopw [7, 8, 9, 10, 11, 12, 13, 14, 15, 16, 17] (fun sn si _ _ _ _ _ _ _ _ _ wr => ∃ (k : Nat) (sent : Int) (s : St) (F : Nat → Prop) (vs vk : Value) (lo : Nat), si = .int .i64 k ∧ k ≤ L.length ∧ sn = .int .i64 sent ∧ 0 ≤ sent ∧ sent ≤ k ∧ s.records ≤ sent ∧ R wr a (some s) F ∧ (∀ k, F k → w.heap.size ≤ k) ∧ (∀ k, F k → k < lo) ∧ ¬ F w3.heap.size ∧
    Chg (fun _ => False) w wr ∧ wr.cell? ⟨w3.heap.size, 0, none⟩ = some vs ∧ wr.cell? ⟨w3.heap.size, 1, none⟩ = some vk ∧ (∀ j, wr.frozen? ⟨w3.heap.size, j, none⟩ = false) ∧ StateAt wr lo vs vk s) (fun _ si _ _ _ _ _ _ _ _ _ _ => L.length - (intOf si).toNat)
  case atStart =>
    rw [← HW3.out]
    exact ⟨0, 0, _, F2, _, _, w2.heap.size, rfl, by omega, rfl, by omega, by omega, by decide, hR33, hF02, hlt2, fun h => by have := hlt2 _ h; omega, c03.trans c33 (fun _ _ h => h), b0, b1, bf, hs33⟩
  case round =>
    obtain ⟨k, sent, s, F, vs, vk, lo, rfl, hk, rfl, hs0, hsk, hrec, hR, hFw, hFlo, hFb, hc, v0, v1, vf, hst⟩ := hrel
    clear hR2 hR3 hR33 hs3 hs33 c3 c33 c02 c03 hF02 hlt2 b0 b1 bf hf2 hz3 hz33 HW3 hbs
    by_cases hkl : k < L.length
    · obtain ⟨x, hx⟩ : ∃ x, L[k]? = some x := ⟨_, List.getElem?_eq_getElem hkl⟩
      obtain ⟨sb, so, cap, hv, y0, y1, y2, y3, y4, y5, y6, y7⟩ := hS.cells k x hx
      simp only [Value.slice.injEq] at hv
      obtain ⟨rfl, _, rfl⟩ := hv
      have yw0 := y0
      replace y0 := hc.cellAt y0 id
      replace y1 := hc.cellAt y1 id
      replace y2 := hc.cellAt y2 id
      replace y3 := hc.cellAt y3 id
      replace y4 := hc.cellAt y4 id
      replace y5 := hc.cellAt y5 id
      replace y6 := hc.cellAt y6 id
      replace y7 := hc.cellAt y7 id
      have hkl' : (k : Int) < (L.length : Int) := by omega
      have hxm := List.mem_of_getElem? hx
      have hdo := does_any H HB x hR (hS.fits x hxm) (hS.more x hxm)
      unfold Stp.value' at hdo
      go_wp2_with fail
      refine hdo.mono ?_
      rintro _ w4 ⟨F4, d, t, rfl, hR4, hF4, c4, hok⟩
      clear hdo y0 y1 y2 y3 y4 y5 y6 y7
      have hft := H.fine hR4
      have hgt := HB.good hR4
      have hlt4 : ∀ k, F4 k → k < w4.heap.size := fun k hk => H.lt hR4 hk
      have hz4 := c4.size
      have hF4w := hc.young hFw hF4
      have cw4 : Chg (fun _ => False) w w4 := hc.step c4 hFw
      go_wp2_with fail
      refine (H.state hR4).mono ?_
      rintro _ w5 ⟨vs5, vk5, rfl, hs5, hR5, c5⟩
      simp only [errno?, state?] at hs5 ⊢
      have hz5 := c5.size
      have cw5 : Chg (fun _ => False) w w5 := cw4.step c5 hF4w
      have cr5 : Chg F wr w5 := c4.chain hF4 c5
      have hbw : w3.heap.size < wr.heap.size := World.block_lt_of_cell? _ _ v0
      have hF4b : ¬ F4 w3.heap.size := fun h => (hF4 _ h).elim hFb (fun h => by omega)
      obtain ⟨us5, hu5, r5, q5⟩ := hs5.sess
      rw [hft.four] at r5 hu5
      obtain ⟨g5, cap5, rfl, hg5, hcap5, hcell5⟩ := row_pos r5 (by omega)
      have hk5 := hs5.keys
      obtain ⟨pk5, ck5, rfl⟩ := row_any hk5
      obtain ⟨W6, hW6⟩ : ∃ W6, W6 = w5.alloc (Obj.cells #[.slice (some ⟨g5, 0, none⟩) 4 cap5, .slice pk5 t.keys.length ck5] 52) := ⟨_, rfl⟩
      have c56 : Chg (fun _ => False) w5 W6 := by rw [hW6]; exact (Chg.refl _ w5).alloc _
      have t0 : W6.cell? ⟨w5.heap.size, 0, none⟩ = some (.slice (some ⟨g5, 0, none⟩) 4 cap5) := by rw [hW6]; exact World.cell?_alloc_at _ _ _ _ rfl
      have t1 : W6.cell? ⟨w5.heap.size, 1, none⟩ = some (.slice pk5 t.keys.length ck5) := by rw [hW6]; exact World.cell?_alloc_at _ _ _ _ rfl
      have hs6 := hs5.kept c56 (fun _ h => h.elim)
      have hst6 := hst.kept (cr5.trans c56 (fun _ _ h => h.elim)) (fun k hk => .inl (by have := hFlo k hk; omega))
      have s0 := c56.cellAt (cr5.cellAt v0 hFb) id
      have s1 := c56.cellAt (cr5.cellAt v1 hFb) id
      have sf : ∀ j, W6.frozen? ⟨w3.heap.size, j, none⟩ = false := fun j => (World.frozen?_of_block (w := wr) ((cr5.trans c56 (fun _ _ h => h.elim)).block w3.heap.size hbw hFb)).trans (vf j)
      have hR6 := H.keep hR5 c56
      have cw6 : Chg (fun _ => False) w W6 := cw5.trans c56 (fun _ _ h => h)
      have hfew : ¬ (4 : Int) < (t.keys.length : Int) := by have := hgt.few; omega
      have yk := cw6.cellAt yw0 id
      have HW6 : Hid (W6 = w5.alloc (Obj.cells #[.slice (some ⟨g5, 0, none⟩) 4 cap5, .slice pk5 t.keys.length ck5] 52)) := hW6
      have hsm := hft.small
      clear hst hs5 hR hR4 hR5 v0 v1 vf
      go_upto_region 16 with fail
      rw [← hW6]
      clear hW6
      go_cut [73] from 64 to 73 (fun s73 wc => s73 = .bool (!d || decide (1 < x.kind)) ∧ wc = W6)
      case first =>
        cases d with
        | false =>
          go_wp2_with fail
          go_meet
          case rel => exact ⟨rfl, rfl⟩
        | true =>
          by_cases hb : 1 < x.kind
          · have hb' : decide (1 < x.kind) = true := by simpa using hb
            go_wp2_with fail
            go_meet
            case rel => exact ⟨by simp; omega, rfl⟩
          · have hb' : decide (1 < x.kind) = false := by simpa using hb
            go_wp2_with fail
            go_meet
            case rel => exact ⟨by simp; omega, rfl⟩
      case rest =>
        obtain ⟨rfl, hwc⟩ := hcut
        rw [hwc]
        clear hwc wc
        obtain ⟨Bq, hBq⟩ : ∃ Bq, Bq = (!d || decide (1 < x.kind)) := ⟨_, rfl⟩
        rw [← hBq]
        have HBQ : Hid (Bq = (!d || decide (1 < x.kind))) := hBq
        clear hBq
        go_upto_if 73 with fail
        go_cut [12] from 73 to 78 (fun _ wc => Chg (fun _ => False) W6 wc)
        case first =>
          cases Bq with
          | false =>
            go_wp2_with fail
            go_meet
            case rel => exact Chg.refl _ _
          | true =>
            have hts : t = s := hok.same (by
              have := HBQ.out
              cases d with
              | false => exact .inl rfl
              | true => right; simpa using this)
            have hst6t : StateAt W6 lo vs vk t := by rw [hts]; exact hst6
            have hss := sameState_eq hst6t hs6 hsm.2.2.1 hsm.2.2.2.1 hsm.2.2.2.2
            obtain ⟨_, _, rr, _⟩ := hst6t.sess
            obtain ⟨pa1, ca1, rfl⟩ := row_any rr
            obtain ⟨pa2, ca2, rfl⟩ := row_any hst6t.keys
            clear hts rr hst6t hst6
            go_wp2_with fail
            refine hss.mono ?_
            rintro _ w7 ⟨rfl, c67⟩
            clear hss s0 s1 t0 t1
            go_wp2_with fail
            go_meet
            case rel => exact c67
        case rest =>
          obtain ⟨w7, rfl⟩ : ∃ w7, w7 = wc := ⟨_, rfl⟩
          have c67 := hcut
          clear hcut HBQ
          go_upto_region 20 with fail
          go_cut [87] from 79 to 87 (fun s87 w8 => s87 = .bool (d && (x.kind == 0)) ∧ w8 = w7)
          case first =>
            have yk7 := c67.cellAt yk id
            cases d with
            | false =>
              go_wp2_with fail
              go_meet
              case rel => exact ⟨rfl, rfl⟩
            | true =>
              by_cases hb : x.kind = 0
              · have hb' : (x.kind == 0) = true := by simpa using hb
                have HB0 : Hid (x.kind = 0) := hb
                clear hb
                go_wp2_with fail
                go_meet
                case rel => exact ⟨by simp [HB0.out], rfl⟩
              · have hb' : (x.kind == 0) = false := by simpa using hb
                go_wp2_with fail
                go_meet
                case rel => exact ⟨by simp [hb'], rfl⟩
          case rest =>
            obtain ⟨rfl, hwc⟩ := hcut
            rw [hwc]
            clear hwc wc
            obtain ⟨Bk, hBk⟩ : ∃ Bk, Bk = (d && (x.kind == 0)) := ⟨_, rfl⟩
            rw [← hBk]
            have hgain : gain d x.kind = if Bk = true then 1 else 0 := by rw [hBk]; unfold gain; simp
            have HG : Hid (gain d x.kind = if Bk = true then 1 else 0) := hgain
            clear hBk hgain
            go_upto_if 87 with fail
            go_cut [7] from 87 to 89 (fun s7 w8 => s7 = .int .i64 (sent + gain d x.kind) ∧ w8 = w7)
            case first =>
              cases Bk with
              | false =>
                go_wp2_with fail
                go_meet
                case rel => exact ⟨by rw [HG.out]; simp, rfl⟩
              | true =>
                go_wp2_with fail
                go_meet
                case rel => exact ⟨by rw [HG.out]; simp, rfl⟩
            case rest =>
              obtain ⟨rfl, hwc⟩ := hcut
              rw [hwc]
              clear hwc wc
              have hgp := gain_pos d x.kind
              have hmore := hok.more
              obtain ⟨sent', hse⟩ : ∃ sent', sent' = sent + gain d x.kind := ⟨_, rfl⟩
              rw [← hse]
              have hsent' : t.records ≤ sent' ∧ 0 ≤ sent' ∧ sent' ≤ k + 1 := by omega
              clear hse hgp hmore HG hrec hs0 hsk hok hst6 yk HW6
              have u0 := c67.cellAt t0 id
              have u1 := c67.cellAt t1 id
              have cw7 : Chg (fun _ => False) w w7 := cw6.trans c67 (fun _ _ h => h)
              have hk7 := c67.row' (c56.row' hk5 (fun _ _ h => h)) (fun _ _ h => h)
              have hup := counts_upto (ks := t.keys) (fun k hk => (hft.key k hk).1)
              have hs6' := hs6
              clear t0 t1 hcell5 q5 r5 hk5 hs6 hF4 c4 c5 cr5 cw4 cw5 cw6 c56
              go_wp2_with fail
              go_loopw [13, 14] (fun sn sj wq => ∃ (j : Nat) (n : Int), sj = .int .i64 j ∧ j ≤ t.keys.length ∧ sn = .int .i64 n ∧ Hid (n = counts (t.keys.take j)) ∧ Chg (fun _ => False) w7 wq) (fun _ sj _ => t.keys.length - (intOf sj).toNat)
              case atStart => exact ⟨0, 0, rfl, by omega, rfl, (show _ = _ by simp [counts]), Chg.refl _ _⟩
              case round =>
                obtain ⟨j, n, rfl, hj, rfl, HN, hcj⟩ := hrel
                have e1 := hcj.cellAt u1 id
                by_cases hjl : j < t.keys.length
                · obtain ⟨q, hq⟩ : ∃ q, t.keys[j]? = some q := ⟨_, List.getElem?_eq_getElem hjl⟩
                  have cx := keyCells_at t.keys j q hq
                  obtain ⟨gk, capk, hvk, _, _, hck⟩ := row_pos hk7 (by omega)
                  simp only [Value.slice.injEq] at hvk
                  obtain ⟨rfl, _, rfl⟩ := hvk
                  have m0 := hcj.cellAt (hck _ _ cx.1) id
                  have m1 := hcj.cellAt (hck _ _ cx.2.1) id
                  have m3 := hcj.cellAt (hck _ _ cx.2.2.2) id
                  have hqk := hft.key q (List.mem_of_getElem? hq)
                  have hjl' : (j : Int) < (t.keys.length : Int) := by omega
                  have hn := counts_next t.keys j q hq
                  have hn1 := hup j
                  have hn2 := hup (j + 1)
                  have hnx : 0 ≤ n ∧ n ≤ 1000 ∧ 0 ≤ n + q.count ∧ n + q.count ≤ 1000 := by rw [HN.out]; omega
                  have HNX : Hid (counts (t.keys.take (j + 1)) = counts (t.keys.take j) + q.count) := hn
                  have hd1 : decide (q.held < 0) = false := by simpa using hqk.2.1
                  have hd2 : decide (q.count < q.held) = false := by simpa using hqk.2.2
                  have hd3 : decide (q.count < 1) = false := by simpa using hqk.1
                  rcases Nat.eq_zero_or_pos j with h0 | h0
                  · subst h0
                    clear hck cx hn hn1 hn2
                    go_wp2_with fail
                    go_quiet (fail)
                    go_wp2_with fail
                    go_roundw
                    case rel => exact ⟨1, n + q.count, rfl, by omega, by go_num, (show _ = _ by rw [HNX.out, HN.out]), hcj.trans (((Quiet.refl _).drewN _).chg _) (fun _ _ h => h)⟩
                    case measure => simp [intOf]; omega
                  · obtain ⟨j, rfl⟩ : ∃ j', j = j' + 1 := ⟨j - 1, by omega⟩
                    obtain ⟨pq, hpq⟩ : ∃ pq, t.keys[j]? = some pq := ⟨_, List.getElem?_eq_getElem (by omega)⟩
                    have cp := keyCells_at t.keys j pq hpq
                    have p0 := hcj.cellAt (hck _ _ cp.1) id
                    have hls : less pq.name q.name = true := by
                      have := List.pairwise_iff_getElem.1 hgt.sorted j (j + 1) (by omega) hjl (by omega)
                      rw [List.getElem?_eq_getElem (by omega)] at hpq hq
                      rw [← Option.some.inj hpq, ← Option.some.inj hq]
                      exact this
                    have hbl : Op.bytesLess pq.name.toList q.name.toList = true := by rw [ByteArray.toList_eq, ByteArray.toList_eq]; exact hls
                    have hd4 : decide ((0 : Int) < (j : Int) + 1) = true := decide_eq_true (by omega)
                    clear hck cx cp hn hn1 hn2 hls
                    go_wp2_with fail
                    go_quiet (fail)
                    go_wp2_with fail
                    go_roundw
                    case rel => exact ⟨j + 2, n + q.count, by go_num, by omega, by go_num, (show _ = _ by rw [HNX.out, HN.out]), hcj.trans (((Quiet.refl _).drewN _).chg _) (fun _ _ h => h)⟩
                    case measure => simp [intOf]; omega
                · have hjl' : ¬ (j : Int) < (t.keys.length : Int) := by omega
                  obtain rfl : j = t.keys.length := by omega
                  have HN' : Hid (n = counts t.keys) := by show _ = _; rw [HN.out, List.take_length]
                  have hn0 : 0 ≤ n ∧ n ≤ 1000 := by rw [HN'.out]; omega
                  clear HN hup
                  have hR7 := H.keep hR6 (c67.trans hcj (fun _ _ h => h))
                  have cw8 : Chg (fun _ => False) w wr := cw7.trans hcj (fun _ _ h => h)
                  obtain ⟨w8, rfl⟩ : ∃ w8, w8 = wr := ⟨_, rfl⟩
                  have x0 := hcj.cellAt u0 id
                  have x1 := hcj.cellAt u1 id
                  have sv0 := hcj.cellAt (c67.cellAt s0 id) id
                  have sv1 := hcj.cellAt (c67.cellAt s1 id) id
                  have svf : ∀ j, w8.frozen? ⟨w3.heap.size, j, none⟩ = false := fun j => (World.frozen?_of_block (w := W6) ((c67.trans hcj (fun _ _ h => h)).block w3.heap.size (World.block_lt_of_cell? _ _ s0) id)).trans (sf j)
                  have hs8 := hs6'.kept (c67.trans hcj (fun _ _ h => h)) (fun _ h => h.elim)
                  obtain ⟨us8, hu8, r8, q8⟩ := hs8.sess
                  rw [hft.four] at r8 hu8
                  obtain ⟨g8, cap8, hv8, _, _, hcell8⟩ := row_pos r8 (by omega)
                  simp only [Value.slice.injEq, Option.some.injEq, Addr.mk.injEq] at hv8
                  obtain ⟨⟨rfl, _, _⟩, _, rfl⟩ := hv8
                  clear u0 u1 s0 s1 sf hs6' c67 hcj hR6 cw7 hk7
                  go_wp2_with fail
                  go_loopw [13, 15, 16, 17] (fun sn sj _ _ wq => ∃ (j : Nat) (m : Int), sj = .int .i64 j ∧ j ≤ 4 ∧ sn = .int .i64 m ∧ Hid (m = n + waits (t.lanes.take j)) ∧ Chg (fun _ => False) w8 wq) (fun _ sj _ _ _ => 4 - (intOf sj).toNat)
                  case atStart => exact ⟨0, n, rfl, by omega, rfl, (show _ = _ by simp [waits]), Chg.refl _ _⟩
                  case round =>
                    obtain ⟨j, m, rfl, hj, rfl, HM, hcj⟩ := hrel
                    have e0 := hcj.cellAt x0 id
                    by_cases hjl : j < 4
                    · obtain ⟨l, hl⟩ : ∃ l, t.lanes[j]? = some l := ⟨_, List.getElem?_eq_getElem (by rw [hft.four]; exact hjl)⟩
                      obtain ⟨u, hu⟩ : ∃ u, us8[j]? = some u := ⟨_, List.getElem?_eq_getElem (by rw [hu8]; exact hjl)⟩
                      have cx := sessCells_at _ _ _ _ _ hl hu
                      have ru := hcj.row' (q8 j l u hl hu) (fun _ _ h => h)
                      obtain ⟨pu, cu, rfl⟩ := row_any ru
                      have m0 := hcj.cellAt (hcell8 _ _ cx.1) id
                      have m1 := hcj.cellAt (hcell8 _ _ cx.2.1) id
                      have m2 := hcj.cellAt (hcell8 _ _ cx.2.2) id
                      have hlm := List.mem_of_getElem? hl
                      have hlf := hft.lane l hlm
                      have hlw := hgt.wait l hlm
                      have hll := hsm.2.2.2.2 l hlm
                      have hnx := waits_next _ _ _ hl
                      have hn1 := waits_upto t.lanes j
                      have hn2 := waits_upto t.lanes (j + 1)
                      have htot : counts t.keys + waits t.lanes ≤ 1000 := hft.total
                      have hmx : 0 ≤ m ∧ m ≤ 3000 := by rw [HM.out]; omega
                      have HNX : Hid (waits (t.lanes.take (j + 1)) = waits (t.lanes.take j) + l.ws.length) := hnx
                      have hjl' : (j : Int) < 4 := by omega
                      obtain ⟨W9, hW9⟩ : ∃ W9, W9 = wr.alloc (Obj.cells #[.int .i64 l.epoch, .int .i64 l.base, .slice pu l.ws.length cu] 56) := ⟨_, rfl⟩
                      have c9 : Chg (fun _ => False) wr W9 := by rw [hW9]; exact (Chg.refl _ wr).alloc _
                      have z1 : W9.cell? ⟨wr.heap.size, 1, none⟩ = some (.int .i64 l.base) := by rw [hW9]; exact World.cell?_alloc_at _ _ _ _ rfl
                      have z2 : W9.cell? ⟨wr.heap.size, 2, none⟩ = some (.slice pu l.ws.length cu) := by rw [hW9]; exact World.cell?_alloc_at _ _ _ _ rfl
                      have ru9 := c9.row' ru (fun _ _ h => h)
                      clear cx hnx hn1 hn2 htot ru
                      go_wp2_with fail
                      rw [← hW9]
                      have hM' : m + (l.ws.length : Int) ≤ 4000 ∧ 0 ≤ m + (l.ws.length : Int) := by omega
                      have HM' : Hid (m + (l.ws.length : Int) = n + waits (t.lanes.take (j + 1))) := by show _ = _; rw [HM.out, HNX.out]; omega
                      obtain ⟨mm, hmm⟩ : ∃ mm, mm = m + (l.ws.length : Int) := ⟨_, rfl⟩
                      rw [← hmm] at HM' hM' ⊢
                      clear hW9 HM HNX hmm hmx m0 m1 m2 e0
                      go_loopw [17] (fun si wq => ∃ (i : Nat), si = .int .i64 i ∧ i ≤ l.ws.length ∧ Chg (fun _ => False) W9 wq) (fun si _ => l.ws.length - (intOf si).toNat)
                      case atStart => exact ⟨0, rfl, by omega, Chg.refl _ _⟩
                      case round =>
                        obtain ⟨i, rfl, hi, hci⟩ := hrel
                        have e2 := hci.cellAt z2 id
                        have e1 := hci.cellAt z1 id
                        by_cases hil : i < l.ws.length
                        · obtain ⟨y, hy⟩ : ∃ y, l.ws[i]? = some y := ⟨_, List.getElem?_eq_getElem hil⟩
                          obtain ⟨gu, capu, hvu, _, _, hcu⟩ := row_pos ru9 (by omega)
                          simp only [Value.slice.injEq] at hvu
                          obtain ⟨rfl, _, rfl⟩ := hvu
                          have y0 := hci.cellAt (hcu i (.int .i64 y.num) (by simp [Ln.nums, hy])) id
                          have hyb := hlw.2 y (List.mem_of_getElem? hy)
                          have hil' : (i : Int) < (l.ws.length : Int) := by omega
                          have hd1 : decide (y.num ≤ l.base) = false := by simpa using hyb.1
                          have hd2 : decide (4 ≤ y.num - l.base) = false := by simp; omega
                          rcases Nat.eq_zero_or_pos i with h0 | h0
                          · subst h0
                            clear hcu hy
                            go_wp2_with fail
                            go_quiet (fail)
                            go_wp2_with fail
                            go_roundw
                            case rel => exact ⟨1, rfl, by omega, hci.trans (((Quiet.refl _).drewN _).chg _) (fun _ _ h => h)⟩
                            case measure => simp [intOf]; omega
                          · obtain ⟨i, rfl⟩ : ∃ i', i = i' + 1 := ⟨i - 1, by omega⟩
                            obtain ⟨py, hpy⟩ : ∃ py, l.ws[i]? = some py := ⟨_, List.getElem?_eq_getElem (by omega)⟩
                            have y1 := hci.cellAt (hcu i (.int .i64 py.num) (by simp [Ln.nums, hpy])) id
                            have hpyb := hlw.2 py (List.mem_of_getElem? hpy)
                            have hls : py.num < y.num := by
                              have := List.pairwise_iff_getElem.1 hlw.1 i (i + 1) (by omega) hil (by omega)
                              rw [List.getElem?_eq_getElem (by omega)] at hpy hy
                              rw [← Option.some.inj hpy, ← Option.some.inj hy]
                              exact this
                            have hd3 : decide (y.num ≤ py.num) = false := by simpa using hls
                            have hd4 : decide ((0 : Int) < (i : Int) + 1) = true := decide_eq_true (by omega)
                            clear hcu hy hpy
                            go_wp2_with fail
                            go_quiet (fail)
                            go_wp2_with fail
                            go_roundw
                            case rel => exact ⟨i + 2, by go_num, by omega, hci.trans (((Quiet.refl _).drewN _).chg _) (fun _ _ h => h)⟩
                            case measure => simp [intOf]; omega
                        · have hil' : ¬ (i : Int) < (l.ws.length : Int) := by omega
                          obtain rfl : i = l.ws.length := by omega
                          go_wp2_with fail
                          go_roundw
                          case rel => exact ⟨j + 1, mm, by go_num, by omega, rfl, HM', hcj.trans (c9.trans hci (fun _ _ h => h)) (fun _ _ h => h)⟩
                          case measure => simp [intOf]; omega
                    · have hjl' : ¬ (j : Int) < 4 := by omega
                      obtain rfl : j = 4 := by omega
                      have hm : m = t.records := by rw [HM.out, HN'.out, List.take_of_length_le (by rw [hft.four]; omega)]; rfl
                      have htot := hft.total
                      have hmm : ¬ sent' < m ∧ ¬ 1000 < m ∧ 0 ≤ m := by
                        have h1 := (waits_ge (ls := t.lanes)).1
                        have h2 := hsm.1
                        unfold St.records at *
                        omega
                      clear HM hm
                      have e1 := hcj.cellAt x1 id
                      have g0 := hcj.cellAt sv0 id
                      have g1 := hcj.cellAt sv1 id
                      have gf : ∀ j, wr.frozen? ⟨w3.heap.size, j, none⟩ = false := fun j => (World.frozen?_of_block (w := w8) (hcj.block w3.heap.size (World.block_lt_of_cell? _ _ sv0) id)).trans (svf j)
                      have gf0 := gf 0
                      have gf1 := gf 1
                      have c9 : Chg (fun k => k = w3.heap.size) wr ((wr.setCell ⟨w3.heap.size, 0, none⟩ (.slice (some ⟨g5, 0, none⟩) 4 cap5)).setCell ⟨w3.heap.size, 1, none⟩ (.slice pk5 t.keys.length ck5)) := Chg.setCell (p := ⟨w3.heap.size, 1, none⟩) (Chg.setCell (p := ⟨w3.heap.size, 0, none⟩) (Chg.refl (fun k => k = w3.heap.size) wr) (fun _ => rfl) _) (fun _ => rfl) _
                      have hR9 := H.keep hR7 hcj
                      have cw9 : Chg (fun _ => False) w wr := cw8.trans hcj (fun _ _ h => h)
                      have hs9 := hs8.kept hcj (fun _ h => h.elim)
                      go_wp2_with fail
                      refine ⟨⟨k + 1, sent', t, F4, _, _, w4.heap.size, by go_num, by omega, rfl, hsent'.2.1, by omega, hsent'.1, H.stable hR9 (fun i hi => c9.block i (H.lt hR9 hi) (fun e => hF4b (by rw [← e]; exact hi))), hF4w, hlt4, hF4b, cw9.step c9 (fun i hi => by rw [hi]; exact hww), (World.cell?_setCell_other _ _ _ _ (by simp)).trans (World.cell?_setCell_same _ _ _ g0), World.cell?_setCell_same _ _ _ ((World.cell?_setCell_other _ _ _ _ (by simp)).trans g1), fun j => by simpa using gf j, hs9.kept c9 (fun i hi => .inl (by rw [hi]; omega))⟩, by simp [intOf]; omega⟩
    · have hkl' : ¬ (k : Int) < (L.length : Int) := by omega
      go_wp2_with fail
      go_ret
      exact ⟨rfl, hc⟩

end Go.Proofs.YtdoedjmdcmgddaaGreat
