import Derived.BigQuiet
import Derived.Deep.CutRange
import Derived.Test.YthedkdbgfdjlkaaGreatDoorPack1
import Derived.Test.YthedkdbgfdjlkaaGreatDoorPack2
import Derived.Test.YthedkdbgfdjlkaaGreatDoorPack3
import Derived.Test.YthedkdbgfdjlkaaGreatDoorPack4
import Derived.Test.YthedkdbgfdjlkaaGreatDoorPack5
import Derived.Test.YthedkdbgfdjlkaaGreatDoorPack6
namespace Go.Proofs.YthedkdbgfdjlkaaGreatDoor
set_option linter.unusedVariables false
set_option linter.unusedSimpArgs false
open Go.RowKit
def pickI (c n : Int) : Int := if c < 0 then (-(c + 1)) % n else c % n
theorem pickI_range {c n : Int} (hn : 0 < n) : 0 ≤ pickI c n ∧ pickI c n < n := by
  unfold pickI
  split
  · exact ⟨Int.emod_nonneg _ (by omega), Int.emod_lt_of_pos _ hn⟩
  · exact ⟨Int.emod_nonneg _ (by omega), Int.emod_lt_of_pos _ hn⟩
theorem Api.alloc {R : World → Addr → Option St → (Nat → Prop) → Prop} (H : Api R) {w : World} {a : Addr} {o : Option St} {F : Nat → Prop} (hR : R w a o F) (b : Obj) : R (w.alloc b) a o F :=
  H.stable hR fun k hk => Below.heap_alloc _ _ _ (H.lt hR hk)
theorem size_alloc (w : World) (b : Obj) : (w.alloc b).heap.size = w.heap.size + 1 := by simp
structure Stp where
  kind : Int
  x : Rec
  key : ByteArray
  n : Int
def Stp.value' (o : Stp) : Value := .agg #[.int .i64 o.kind, .int .i64 o.x.session, .int .i64 o.x.epoch, .int .i64 o.x.number, .string o.x.key, .int .i64 o.x.value, .string o.key, .int .i64 o.n]
end Go.Proofs.YthedkdbgfdjlkaaGreatDoor

namespace Go.Proofs.YthedkdbgfdjlkaaGreatDoor
set_option linter.unusedVariables false
set_option linter.unusedSimpArgs false
open Go.RowKit
theorem sessCells_at : ∀ (ls : List Ln) (us : List Value) (i : Nat) (l : Ln) (u : Value), ls[i]? = some l → us[i]? = some u → (sessCells ls us)[i * 3]? = some (.int .i64 l.epoch) ∧ (sessCells ls us)[i * 3 + 1]? = some (.int .i64 l.base) ∧ (sessCells ls us)[i * 3 + 2]? = some u
  | [], _, i, l, u, h, _ => by simp at h
  | _ :: _, [], i, l, u, _, h => by simp at h
  | x :: r, v :: us, 0, l, u, h, h' => by
    simp at h h'
    subst h h'
    simp [sessCells]
  | x :: r, v :: us, i + 1, l, u, h, h' => by
    have := sessCells_at r us i l u (by simpa using h) (by simpa using h')
    rw [show (i + 1) * 3 = i * 3 + 3 by omega, show i * 3 + 3 + 1 = i * 3 + 1 + 3 by omega, show i * 3 + 3 + 2 = i * 3 + 2 + 3 by omega]
    simpa [sessCells] using this
theorem keyNeq (n : ByteArray) (c f h : Int) (W : World) : (binOp .neq 87 (.agg #[.string n, .int .i64 c, .int .i64 f, .int .i64 h]) (.agg #[.string n, .int .i64 c, .int .i64 f, .int .i64 h])).run Tryz.prog W = .ok (.bool false) W := by
  simp [go_sem]
end Go.Proofs.YthedkdbgfdjlkaaGreatDoor

namespace Go.Proofs.YthedkdbgfdjlkaaGreatDoor
set_option linter.unusedVariables false
set_option linter.unusedSimpArgs false
open Go.RowKit
set_option maxHeartbeats 2000000 in
theorem sameInts_eq {w : World} {lo1 lo2 : Nat} {v1 v2 : Value} {L : List Wt} (h1 : w.ownsRow lo1 3 1 v1 L.length (L.map fun y => .int .i64 y.num)) (h2 : w.ownsRow lo2 3 1 v2 L.length (L.map fun y => .int .i64 y.num)) (hL : L.length ≤ 1000) :
    Calls Tryz.prog 87 #[v1, v2] w fun e w' => e = .returned (.bool true) ∧ Chg (fun _ => False) w w' := by
  obtain ⟨p1, c1, rfl⟩ := row_any h1
  obtain ⟨p2, c2, rfl⟩ := row_any h2
  go_enter Tryz.func87, Tryz.ntmps87
  go_wp2_with fail
  go_loopw [5] (fun si wr => ∃ (j : Nat), si = .int .i64 j ∧ j ≤ L.length ∧ Chg (fun _ => False) w wr) (fun si _ => L.length - (intOf si).toNat)
  case atStart => exact ⟨0, rfl, by omega, Chg.refl _ _⟩
  case round =>
    obtain ⟨j, rfl, hj, hc⟩ := hrel
    by_cases hjl : j < L.length
    · obtain ⟨x, hx⟩ : ∃ x, L[j]? = some x := ⟨_, List.getElem?_eq_getElem hjl⟩
      have hn : (L.map fun y => Value.int .i64 y.num)[j]? = some (.int .i64 x.num) := by simp [hx]
      obtain ⟨g1, cap1, hv1, _, _, hc1⟩ := row_pos h1 (by omega)
      obtain ⟨g2, cap2, hv2, _, _, hc2⟩ := row_pos h2 (by omega)
      simp only [Value.slice.injEq] at hv1 hv2
      obtain ⟨rfl, _, rfl⟩ := hv1
      obtain ⟨rfl, _, rfl⟩ := hv2
      have p1 := hc.cellAt (hc1 _ _ hn) id
      have p2 := hc.cellAt (hc2 _ _ hn) id
      have hjl' : (j : Int) < (L.length : Int) := by omega
      clear hc1 hc2
      go_wp2_with fail
      go_quiet (fail)
      go_wp2_with fail
      exact ⟨⟨j + 1, by go_num, by omega, hc.trans (((Quiet.refl _).drewN _).chg _) (fun _ _ h => h)⟩, by simp [intOf]; omega⟩
    · have hjl' : ¬ (j : Int) < (L.length : Int) := by omega
      go_wp2_with fail
      go_ret
      exact ⟨rfl, hc⟩
theorem putNeq (k : ByteArray) (t v : Int) (W : World) : (binOp .neq 63 (.agg #[.string k, .int .i64 t, .int .i64 v]) (.agg #[.string k, .int .i64 t, .int .i64 v])).run Tryz.prog W = .ok (.bool false) W := by
  simp [go_sem]
set_option maxHeartbeats 2000000 in
theorem samePuts_eq {w : World} {lo1 lo2 : Nat} {v1 v2 : Value} {L : List Pt} (h1 : w.ownsRow lo1 63 3 v1 L.length (putCells L)) (h2 : w.ownsRow lo2 63 3 v2 L.length (putCells L)) (hL : L.length ≤ 1000) :
    Calls Tryz.prog 53 #[v1, v2] w fun e w' => e = .returned (.bool true) ∧ Chg (fun _ => False) w w' := by
  obtain ⟨p1, c1, rfl⟩ := row_any h1
  obtain ⟨p2, c2, rfl⟩ := row_any h2
  have hneq := putNeq
  go_enter Tryz.func53, Tryz.ntmps53
  go_wp2_with fail
  go_loopw [5] (fun si wr => ∃ (j : Nat), si = .int .i64 j ∧ j ≤ L.length ∧ Chg (fun _ => False) w wr) (fun si _ => L.length - (intOf si).toNat)
  case atStart => exact ⟨0, rfl, by omega, Chg.refl _ _⟩
  case round =>
    obtain ⟨j, rfl, hj, hc⟩ := hrel
    by_cases hjl : j < L.length
    · obtain ⟨x, hx⟩ : ∃ x, L[j]? = some x := ⟨_, List.getElem?_eq_getElem hjl⟩
      have cx := putCells_at L j x hx
      obtain ⟨g1, cap1, hv1, _, _, hc1⟩ := row_pos h1 (by omega)
      obtain ⟨g2, cap2, hv2, _, _, hc2⟩ := row_pos h2 (by omega)
      simp only [Value.slice.injEq] at hv1 hv2
      obtain ⟨rfl, _, rfl⟩ := hv1
      obtain ⟨rfl, _, rfl⟩ := hv2
      have p0 := hc.cellAt (hc1 _ _ cx.1) id
      have p1 := hc.cellAt (hc1 _ _ cx.2.1) id
      have p2 := hc.cellAt (hc1 _ _ cx.2.2) id
      have o0 := hc.cellAt (hc2 _ _ cx.1) id
      have o1 := hc.cellAt (hc2 _ _ cx.2.1) id
      have o2 := hc.cellAt (hc2 _ _ cx.2.2) id
      have hjl' : (j : Int) < (L.length : Int) := by omega
      clear hc1 hc2
      go_wp2_with fail
      go_quiet (fail)
      go_wp2_with fail
      exact ⟨⟨j + 1, by go_num, by omega, hc.trans (((Quiet.refl _).drewN _).chg _) (fun _ _ h => h)⟩, by simp [intOf]; omega⟩
    · have hjl' : ¬ (j : Int) < (L.length : Int) := by omega
      go_wp2_with fail
      go_ret
      exact ⟨rfl, hc⟩
set_option maxRecDepth 100000 in
set_option maxHeartbeats 4000000 in
theorem lsameState_eq {w : World} {lo1 lo2 : Nat} {vs1 vk1 vs2 vk2 : Value} {s : St} (h1 : StateAt w lo1 vs1 vk1 s) (h2 : StateAt w lo2 vs2 vk2 s) (hl : s.lanes.length ≤ 1000) (hk : s.keys.length ≤ 1000) (hw : ∀ l ∈ s.lanes, l.ws.length ≤ 1000) :
    Calls Tryz.prog 49 #[.agg #[vs1, vk1], .agg #[vs2, vk2]] w fun e w' => e = .returned (.bool true) ∧ Chg (fun _ => False) w w' := by
  obtain ⟨us1, hu1, r1, q1⟩ := h1.sess
  obtain ⟨us2, hu2, r2, q2⟩ := h2.sess
  have k1 := h1.keys
  have k2 := h2.keys
  obtain ⟨ps1, cs1, rfl⟩ := row_any r1
  obtain ⟨ps2, cs2, rfl⟩ := row_any r2
  obtain ⟨pk1, ck1, rfl⟩ := row_any k1
  obtain ⟨pk2, ck2, rfl⟩ := row_any k2
  clear h1 h2
  obtain ⟨W0, hW0⟩ : ∃ W0, W0 = (w.alloc (Obj.cells #[.slice ps1 s.lanes.length cs1, .slice pk1 s.keys.length ck1] 46)).alloc (Obj.cells #[.slice ps2 s.lanes.length cs2, .slice pk2 s.keys.length ck2] 46) := ⟨_, rfl⟩
  have c0 : Chg (fun _ => False) w W0 := by rw [hW0]; exact ((Chg.refl _ w).alloc _).alloc _
  have a0 : W0.cell? ⟨w.heap.size, 0, none⟩ = some (.slice ps1 s.lanes.length cs1) := by rw [hW0]; exact ((Chg.refl (fun _ => False) _).alloc _).cellAt (World.cell?_alloc_at _ _ _ _ rfl) id
  have a1 : W0.cell? ⟨w.heap.size, 1, none⟩ = some (.slice pk1 s.keys.length ck1) := by rw [hW0]; exact ((Chg.refl (fun _ => False) _).alloc _).cellAt (World.cell?_alloc_at _ _ _ _ rfl) id
  have b0 : W0.cell? ⟨w.heap.size + 1, 0, none⟩ = some (.slice ps2 s.lanes.length cs2) := by rw [hW0]; exact World.cell?_alloc_at _ _ _ _ (by simp)
  have b1 : W0.cell? ⟨w.heap.size + 1, 1, none⟩ = some (.slice pk2 s.keys.length ck2) := by rw [hW0]; exact World.cell?_alloc_at _ _ _ _ (by simp)
  have HW0 : Hid (W0 = (w.alloc (Obj.cells #[.slice ps1 s.lanes.length cs1, .slice pk1 s.keys.length ck1] 46)).alloc (Obj.cells #[.slice ps2 s.lanes.length cs2, .slice pk2 s.keys.length ck2] 46)) := hW0
  have hneq := keyNeq
  clear hW0
  go_enter Tryz.func49, Tryz.ntmps49
  go_wp2_with fail
  go_loopw [5, 6, 7, 8] (fun si _ _ _ wr => ∃ (k : Nat), si = .int .i64 k ∧ k ≤ s.lanes.length ∧ Chg (fun _ => False) W0 wr) (fun si _ _ _ _ => s.lanes.length - (intOf si).toNat)
  case atStart => exact ⟨0, rfl, by omega, by rw [HW0.out]; exact Chg.refl _ _⟩
  case round =>
    obtain ⟨k, rfl, hk1, hc⟩ := hrel
    have d0 := hc.cellAt a0 id
    have d1 := hc.cellAt a1 id
    have e0 := hc.cellAt b0 id
    have e1 := hc.cellAt b1 id
    have hc' : Chg (fun _ => False) w wr := c0.trans hc (fun _ _ h => h)
    by_cases hkl : k < s.lanes.length
    · obtain ⟨l, hll⟩ : ∃ l, s.lanes[k]? = some l := ⟨_, List.getElem?_eq_getElem hkl⟩
      obtain ⟨u1, hh1⟩ : ∃ u, us1[k]? = some u := ⟨_, List.getElem?_eq_getElem (by omega)⟩
      obtain ⟨u2, hh2⟩ : ∃ u, us2[k]? = some u := ⟨_, List.getElem?_eq_getElem (by omega)⟩
      have x1 := sessCells_at _ _ _ _ _ hll hh1
      have x2 := sessCells_at _ _ _ _ _ hll hh2
      have t1 := q1 k l u1 hll hh1
      have t2 := q2 k l u2 hll hh2
      obtain ⟨pu1, cu1, rfl⟩ := row_any t1
      obtain ⟨pu2, cu2, rfl⟩ := row_any t2
      have hlw := hw l (List.mem_of_getElem? hll)
      obtain ⟨g1, cap1, hv1, _, _, hcell1⟩ := row_pos r1 (by omega)
      obtain ⟨g2, cap2, hv2, _, _, hcell2⟩ := row_pos r2 (by omega)
      simp only [Value.slice.injEq] at hv1 hv2
      obtain ⟨rfl, _, rfl⟩ := hv1
      obtain ⟨rfl, _, rfl⟩ := hv2
      have m0 := hc'.cellAt (hcell1 _ _ x1.1) id
      have m1 := hc'.cellAt (hcell1 _ _ x1.2.1) id
      have m2 := hc'.cellAt (hcell1 _ _ x1.2.2) id
      have n0 := hc'.cellAt (hcell2 _ _ x2.1) id
      have n1 := hc'.cellAt (hcell2 _ _ x2.2.1) id
      have n2 := hc'.cellAt (hcell2 _ _ x2.2.2) id
      have hkl' : (k : Int) < (s.lanes.length : Int) := by omega
      clear hcell1 hcell2 x1 x2
      have ee : ∀ ob, (wr.alloc ob).cell? ⟨w.heap.size + 1, 0, none⟩ = some (.slice (some ⟨g2, 0, none⟩) s.lanes.length cs2) := fun ob => ((Chg.refl (fun _ => False) wr).alloc ob).cellAt e0 id
      have nn0 : ∀ ob, (wr.alloc ob).cell? ⟨g2, k * 3, none⟩ = some (.int .i64 l.epoch) := fun ob => ((Chg.refl (fun _ => False) wr).alloc ob).cellAt n0 id
      have nn1 : ∀ ob, (wr.alloc ob).cell? ⟨g2, k * 3 + 1, none⟩ = some (.int .i64 l.base) := fun ob => ((Chg.refl (fun _ => False) wr).alloc ob).cellAt n1 id
      have nn2 : ∀ ob, (wr.alloc ob).cell? ⟨g2, k * 3 + 2, none⟩ = some (.slice pu2 l.ws.length cu2) := fun ob => ((Chg.refl (fun _ => False) wr).alloc ob).cellAt n2 id
      obtain ⟨W2, hW2⟩ : ∃ W2, W2 = (wr.alloc (Obj.cells #[.int .i64 l.epoch, .int .i64 l.base, .slice pu1 l.ws.length cu1] 121)).alloc (Obj.cells #[.int .i64 l.epoch, .int .i64 l.base, .slice pu2 l.ws.length cu2] 121) := ⟨_, rfl⟩
      have c2 : Chg (fun _ => False) wr W2 := by rw [hW2]; exact ((Chg.refl _ wr).alloc _).alloc _
      have hcw2 : Chg (fun _ => False) w W2 := hc'.trans c2 (fun _ _ h => h)
      have hsi := sameInts_eq (L := l.ws) (hcw2.row' t1 (fun _ _ h => h)) (hcw2.row' t2 (fun _ _ h => h)) hlw
      have y0 : W2.cell? ⟨wr.heap.size, 0, none⟩ = some (.int .i64 l.epoch) := by rw [hW2]; exact ((Chg.refl (fun _ => False) _).alloc _).cellAt (World.cell?_alloc_at _ _ _ _ rfl) id
      have y1 : W2.cell? ⟨wr.heap.size, 1, none⟩ = some (.int .i64 l.base) := by rw [hW2]; exact ((Chg.refl (fun _ => False) _).alloc _).cellAt (World.cell?_alloc_at _ _ _ _ rfl) id
      have z0 : W2.cell? ⟨wr.heap.size + 1, 0, none⟩ = some (.int .i64 l.epoch) := by rw [hW2]; exact World.cell?_alloc_at _ _ _ _ (by simp)
      have z1 : W2.cell? ⟨wr.heap.size + 1, 1, none⟩ = some (.int .i64 l.base) := by rw [hW2]; exact World.cell?_alloc_at _ _ _ _ (by simp)
      go_wp2_with fail
      rw [← hW2]
      refine hsi.mono ?_
      rintro _ w3 ⟨rfl, c3⟩
      clear hsi hW2
      have y0' := c3.cellAt y0 id
      have y1' := c3.cellAt y1 id
      have z0' := c3.cellAt z0 id
      have z1' := c3.cellAt z1 id
      go_wp2_with fail
      exact ⟨⟨k + 1, by go_num, by omega, (hc.trans c2 (fun _ _ h => h)).trans c3 (fun _ _ h => h)⟩, by simp [intOf]; omega⟩
    · have hkl' : ¬ (k : Int) < (s.lanes.length : Int) := by omega
      go_wp2_with fail
      go_loopw [9] (fun sj w2 => ∃ (j : Nat), sj = .int .i64 j ∧ j ≤ s.keys.length ∧ Chg (fun _ => False) wr w2) (fun sj _ => s.keys.length - (intOf sj).toNat)
      case atStart => exact ⟨0, rfl, by omega, Chg.refl _ _⟩
      case round =>
        obtain ⟨j, rfl, hj, hcj⟩ := hrel
        have v1 := hcj.cellAt d1 id
        have w1 := hcj.cellAt e1 id
        have hcc : Chg (fun _ => False) w wr := hc'.trans hcj (fun _ _ h => h)
        by_cases hjl : j < s.keys.length
        · obtain ⟨x, hx⟩ : ∃ x, s.keys[j]? = some x := ⟨_, List.getElem?_eq_getElem hjl⟩
          have cx := keyCells_at s.keys j x hx
          obtain ⟨gu1, capu1, hvu1, _, _, hcu1⟩ := row_pos k1 (by omega)
          obtain ⟨gu2, capu2, hvu2, _, _, hcu2⟩ := row_pos k2 (by omega)
          simp only [Value.slice.injEq] at hvu1 hvu2
          obtain ⟨rfl, _, rfl⟩ := hvu1
          obtain ⟨rfl, _, rfl⟩ := hvu2
          have p0 := hcc.cellAt (hcu1 _ _ cx.1) id
          have p1 := hcc.cellAt (hcu1 _ _ cx.2.1) id
          have p2 := hcc.cellAt (hcu1 _ _ cx.2.2.1) id
          have p3 := hcc.cellAt (hcu1 _ _ cx.2.2.2) id
          have o0 := hcc.cellAt (hcu2 _ _ cx.1) id
          have o1 := hcc.cellAt (hcu2 _ _ cx.2.1) id
          have o2 := hcc.cellAt (hcu2 _ _ cx.2.2.1) id
          have o3 := hcc.cellAt (hcu2 _ _ cx.2.2.2) id
          have hjl' : (j : Int) < (s.keys.length : Int) := by omega
          clear hcu1 hcu2
          go_wp2_with fail
          go_quiet (fail)
          go_wp2_with fail
          go_roundw
          case rel => exact ⟨j + 1, by go_num, by omega, hcj.trans (((Quiet.refl _).drewN _).chg _) (fun _ _ h => h)⟩
          case measure => simp [intOf]; omega
        · have hjl' : ¬ (j : Int) < (s.keys.length : Int) := by omega
          go_wp2_with fail
          go_ret
          exact ⟨rfl, hcc⟩
end Go.Proofs.YthedkdbgfdjlkaaGreatDoor

namespace Go.Proofs.YthedkdbgfdjlkaaGreatDoor
set_option linter.unusedVariables false
set_option linter.unusedSimpArgs false
open Go.RowKit
def Rec.wt (x : Rec) : Wt := ⟨x.number, x.key, x.value⟩
def keysOf (l : List Rec) (ks : List Ky) : List Ky := l.foldl (fun ks x => takeKy x.key x.value ks) ks
def ofS (all : List Rec) (i : Nat) : List Rec := all.filter (fun x => x.session == (i : Int))
def kC : ByteArray := { data := #[99] }
def kS : ByteArray := { data := #[115] }
def kL : ByteArray := { data := #[108, 97, 115, 116] }
def kM : ByteArray := { data := #[109, 97, 120] }
def names4 : List ByteArray := [kC, kS, kL, kM]
structure Numbered (all : List Rec) : Prop where
  few : all.length ≤ 900
  each : ∀ x ∈ all, 0 ≤ x.session ∧ x.session < 4 ∧ x.epoch = 0 ∧ x.key ∈ names4 ∧ 0 ≤ x.value ∧ x.value ≤ 4294967295
  num : ∀ (i n : Nat) (x : Rec), (ofS all i)[n]? = some x → x.number = n
structure LnInv (A : List Rec) (l : Ln) : Prop where
  ep : l.epoch = 0
  lo : 0 ≤ l.base
  hi : l.base ≤ A.length
  up : l.ws.Pairwise fun a b => a.num < b.num
  win : ∀ y ∈ l.ws, l.base < y.num ∧ y.num < l.base + 4
  wt : ∀ y ∈ l.ws, ∃ x, A[y.num.toNat]? = some x ∧ y = x.wt
def bases : List Ln → Int
  | [] => 0
  | l :: r => l.base + bases r
structure OInv (all ol : List Rec) (s : St) : Prop where
  four : s.lanes.length = 4
  keys : s.keys = keysOf ol []
  lane : ∀ (i : Nat) (l : Ln), s.lanes[i]? = some l → LnInv (ofS all i) l
  sum : (ol.length : Int) = bases s.lanes
  sub : ∀ x ∈ ol, x ∈ all
theorem keysOf_append (a b : List Rec) (ks : List Ky) : keysOf (a ++ b) ks = keysOf b (keysOf a ks) := List.foldl_append
theorem counts_keysOf : ∀ (l : List Rec) (ks : List Ky), counts (keysOf l ks) = counts ks + l.length
  | [], ks => by simp [keysOf]
  | x :: r, ks => by
    have := counts_keysOf r (takeKy x.key x.value ks)
    rw [counts_takeKy] at this
    simp only [keysOf, List.foldl_cons] at this ⊢
    rw [this]
    simp
    omega
theorem up_len : ∀ (ws : List Wt) (a b : Int), (ws.Pairwise fun a b => a.num < b.num) → (∀ y ∈ ws, a ≤ y.num ∧ y.num < b) → ws = [] ∨ (ws.length : Int) ≤ b - a
  | [], a, b, _, _ => .inl rfl
  | x :: r, a, b, hu, hm => by
    right
    obtain ⟨h1, h2⟩ := List.pairwise_cons.1 hu
    have hx := hm x (by simp)
    rcases up_len r (x.num + 1) b h2 (fun y hy => ⟨h1 y hy, (hm y (by simp [hy])).2⟩) with h | h
    · subst h; simp; omega
    · simp; omega
theorem LnInv.room {A : List Rec} {l : Ln} (h : LnInv A l) : l.base + l.ws.length ≤ A.length := by
  rcases up_len l.ws (l.base + 1) A.length h.up (fun y hy => ⟨(h.win y hy).1, by
    obtain ⟨x, hx, _⟩ := h.wt y hy
    have := (List.getElem?_eq_some_iff.1 hx).1
    have := (h.win y hy).1
    have := h.lo
    omega⟩) with e | e
  · have := h.hi
    rw [e]; simpa using this
  · omega
theorem ofS_total : ∀ (all : List Rec), (∀ x ∈ all, 0 ≤ x.session ∧ x.session < 4) → (ofS all 0).length + (ofS all 1).length + (ofS all 2).length + (ofS all 3).length = all.length
  | [], _ => rfl
  | x :: r, h => by
    have ih := ofS_total r (fun y hy => h y (by simp [hy]))
    have hx := h x (by simp)
    unfold ofS at ih ⊢
    rcases (by omega : x.session = 0 ∨ x.session = 1 ∨ x.session = 2 ∨ x.session = 3) with e | e | e | e <;> simp [List.filter_cons, e] at ih ⊢ <;> omega
theorem OInv.total {all ol : List Rec} {s : St} (h : OInv all ol s) (hn : Numbered all) : s.records ≤ all.length := by
  have ht := ofS_total all (fun x hx => ⟨(hn.each x hx).1, (hn.each x hx).2.1⟩)
  have hk : counts s.keys = bases s.lanes := by rw [h.keys, counts_keysOf, ← h.sum]; simp [counts]
  unfold St.records
  rw [hk]
  have h4 := h.four
  have hl := h.lane
  match hs : s.lanes, h4 with
  | [l0, l1, l2, l3], _ =>
    rw [hs] at hl
    have r0 := (hl 0 l0 rfl).room
    have r1 := (hl 1 l1 rfl).room
    have r2 := (hl 2 l2 rfl).room
    have r3 := (hl 3 l3 rfl).room
    simp only [bases, waits]
    omega
theorem mem_putW (x : Wt) : ∀ (l : List Wt) (y : Wt), y ∈ putW x l ↔ y = x ∨ y ∈ l
  | [], y => by simp [putW]
  | z :: r, y => by
    unfold putW
    split
    · simp
    · simp only [List.mem_cons, mem_putW x r y]
      constructor
      · rintro (h | h | h) <;> simp [h]
      · rintro (h | h | h) <;> simp [h]
theorem putW_up (x : Wt) : ∀ {l : List Wt}, (l.Pairwise fun a b => a.num < b.num) → (∀ y ∈ l, y.num ≠ x.num) → (putW x l).Pairwise fun a b => a.num < b.num
  | [], _, _ => by simp [putW]
  | z :: r, hu, hn => by
    obtain ⟨h1, h2⟩ := List.pairwise_cons.1 hu
    unfold putW
    split
    · rename_i h
      refine List.pairwise_cons.2 ⟨fun y hy => ?_, hu⟩
      rcases List.mem_cons.1 hy with rfl | hy
      · exact h
      · have := h1 y hy; omega
    · rename_i h
      refine List.pairwise_cons.2 ⟨fun y hy => ?_, putW_up x h2 (fun y hy => hn y (by simp [hy]))⟩
      rcases (mem_putW x r y).1 hy with rfl | hy
      · have := hn z (by simp); omega
      · exact h1 y hy
theorem isIn_mem (k : ByteArray) (r : List ByteArray) : isIn k r = true ↔ k ∈ r := by
  unfold isIn
  rw [List.any_eq_true]
  constructor
  · rintro ⟨y, hy, e⟩
    have e : y = k := by simpa using e
    rw [← e]; exact hy
  · intro h
    exact ⟨k, h, by simp⟩
theorem keysOf_names : ∀ (l : List Rec) (ks : List Ky) (k : Ky), k ∈ keysOf l ks → (∃ y ∈ ks, y.name = k.name) ∨ ∃ x ∈ l, x.key = k.name
  | [], ks, k, h => .inl ⟨k, h, rfl⟩
  | x :: r, ks, k, h => by
    rcases keysOf_names r (takeKy x.key x.value ks) k h with ⟨y, hy, e⟩ | ⟨y, hy, e⟩
    · rcases takeKy_name_mem _ _ _ _ hy with h | ⟨z, hz, e2⟩
      · exact .inr ⟨x, by simp, by rw [← e, h]⟩
      · exact .inl ⟨z, hz, by rw [e2, e]⟩
    · exact .inr ⟨y, by simp [hy], e⟩
theorem OInv.names {all ol : List Rec} {s : St} (h : OInv all ol s) (hn : Numbered all) : ∀ k ∈ s.names, k ∈ names4 := by
  intro k hk
  unfold St.names at hk
  rcases List.mem_append.1 hk with hk | hk
  · obtain ⟨y, hy, e⟩ := List.mem_map.1 hk
    rw [h.keys] at hy
    rcases keysOf_names _ _ _ hy with ⟨z, hz, _⟩ | ⟨x, hx, e2⟩
    · simp at hz
    · rw [← e, ← e2]; exact (hn.each x (h.sub x hx)).2.2.2.1
  · obtain ⟨l, hl, hk⟩ := List.mem_flatMap.1 hk
    obtain ⟨y, hy, e⟩ := List.mem_map.1 hk
    obtain ⟨i, hi, e2⟩ := List.getElem_of_mem hl
    obtain ⟨x, hx, e3⟩ := (h.lane i l (by rw [List.getElem?_eq_getElem hi, e2])).wt y hy
    have hx' := (List.mem_filter.1 (List.mem_of_getElem? hx)).1
    rw [← e, e3]
    exact (hn.each x hx').2.2.2.1
theorem OInv.init (all : List Rec) : OInv all [] St.init := by
  refine ⟨rfl, rfl, fun i l hl => ?_, rfl, by simp⟩
  have : l = Ln.init := by
    have := List.mem_of_getElem? hl
    simp [St.init] at this
    exact this
  subst this
  exact ⟨rfl, by simp [Ln.init], by simp [Ln.init], by simp [Ln.init], by simp [Ln.init], by simp [Ln.init]⟩
end Go.Proofs.YthedkdbgfdjlkaaGreatDoor

namespace Go.Proofs.YthedkdbgfdjlkaaGreatDoor
set_option linter.unusedVariables false
set_option linter.unusedSimpArgs false
open Go.RowKit
def tallyOne (name : ByteArray) (p : Int × Int) (x : Rec) : Int × Int := if x.key = name then (p.1 + 1, foldOne name (p.1 + 1) p.2 x.value) else p
def tally (name : ByteArray) (l : List Rec) : Int × Int := l.foldl (tallyOne name) (0, 0)
theorem tally_snoc (name : ByteArray) (l : List Rec) (x : Rec) : tally name (l ++ [x]) = tallyOne name (tally name l) x := by
  unfold tally
  rw [List.foldl_append]; rfl
theorem tally_none (name : ByteArray) : ∀ (l : List Rec) (p : Int × Int), (∀ x ∈ l, x.key ≠ name) → l.foldl (tallyOne name) p = p
  | [], p, _ => rfl
  | x :: r, p, h => by
    rw [List.foldl_cons]
    have : tallyOne name p x = p := by unfold tallyOne; rw [if_neg (h x (by simp))]
    rw [this]
    exact tally_none name r p (fun y hy => h y (by simp [hy]))
theorem tally_grow (name : ByteArray) : ∀ (l : List Rec) (p : Int × Int), p.1 ≤ (l.foldl (tallyOne name) p).1 ∧ (l.foldl (tallyOne name) p).1 ≤ p.1 + l.length
  | [], p => by simp
  | x :: r, p => by
    obtain ⟨h1, h2⟩ := tally_grow name r (tallyOne name p x)
    have h3 : p.1 ≤ (tallyOne name p x).1 ∧ (tallyOne name p x).1 ≤ p.1 + 1 := by
      unfold tallyOne
      split
      · simp only; omega
      · omega
    rw [List.foldl_cons]
    simp only [List.length_cons]
    omega
theorem tally_take_next (name : ByteArray) (l : List Rec) (i : Nat) (x : Rec) (h : l[i]? = some x) : tally name (l.take (i + 1)) = tallyOne name (tally name (l.take i)) x := by
  obtain ⟨hl, e⟩ := List.getElem?_eq_some_iff.1 h
  rw [List.take_succ_eq_append_getElem hl, e, tally_snoc]
theorem tally_take_le (name : ByteArray) (l : List Rec) (i : Nat) : 0 ≤ (tally name (l.take i)).1 ∧ (tally name (l.take i)).1 ≤ (tally name l).1 ∧ (tally name l).1 ≤ l.length := by
  have h1 := tally_grow name (l.take i) (0, 0)
  have h2 := tally_grow name (l.drop i) (tally name (l.take i))
  have h3 := tally_grow name l (0, 0)
  have e : (l.drop i).foldl (tallyOne name) (tally name (l.take i)) = tally name l := by
    unfold tally
    rw [← List.foldl_append, List.take_append_drop]
  rw [e] at h2
  unfold tally at *
  simp only at *
  omega
theorem takeKy_cases (name : ByteArray) (val : Int) : ∀ {ks : List Ky}, Sorted ks → ∀ k ∈ takeKy name val ks, (k ∈ ks ∧ k.name ≠ name) ∨ (∃ y ∈ ks, y.name = name ∧ k = y.more val) ∨ (k = (⟨name, 0, 0, 0⟩ : Ky).more val ∧ ∀ y ∈ ks, y.name ≠ name)
  | [], _, k, h => by
    simp [takeKy] at h
    exact .inr (.inr ⟨h, by simp⟩)
  | z :: r, hs, k, h => by
    obtain ⟨h1, h2⟩ := List.pairwise_cons.1 hs
    unfold takeKy at h
    split at h
    · rename_i e
      rcases List.mem_cons.1 h with rfl | hk
      · exact .inr (.inl ⟨z, by simp, e, rfl⟩)
      · refine .inl ⟨by simp [hk], fun e2 => ?_⟩
        have := h1 k hk
        rw [e, e2, less_irrefl] at this
        cases this
    · rename_i e
      split at h
      · rename_i hl
        have hr : ∀ y ∈ z :: r, y.name ≠ name := fun y hy e2 => by
          rcases List.mem_cons.1 hy with rfl | hy
          · exact e e2
          · have := less_trans hl (h1 y hy)
            rw [e2, less_irrefl] at this
            cases this
        rcases List.mem_cons.1 h with rfl | hk
        · exact .inr (.inr ⟨rfl, hr⟩)
        · exact .inl ⟨hk, hr k hk⟩
      · rcases List.mem_cons.1 h with rfl | hk
        · exact .inl ⟨by simp, e⟩
        · rcases takeKy_cases name val h2 k hk with ⟨g1, g2⟩ | ⟨y, g1, g2, g3⟩ | ⟨g1, g2⟩
          · exact .inl ⟨by simp [g1], g2⟩
          · exact .inr (.inl ⟨y, by simp [g1], g2, g3⟩)
          · refine .inr (.inr ⟨g1, fun y hy => ?_⟩)
            rcases List.mem_cons.1 hy with rfl | hy
            · exact e
            · exact g2 y hy
theorem takeKy_has (name : ByteArray) (val : Int) : ∀ (ks : List Ky), (∃ k ∈ takeKy name val ks, k.name = name) ∧ ∀ y ∈ ks, ∃ k ∈ takeKy name val ks, k.name = y.name
  | [] => by simp [takeKy, Ky.more]
  | z :: r => by
    obtain ⟨⟨k, hk, ek⟩, h⟩ := takeKy_has name val r
    unfold takeKy
    split
    · rename_i e
      refine ⟨⟨z.more val, by simp, e⟩, fun y hy => ?_⟩
      rcases List.mem_cons.1 hy with rfl | hy
      · exact ⟨y.more val, by simp, rfl⟩
      · exact ⟨y, by simp [hy], rfl⟩
    · split
      · refine ⟨⟨_, List.mem_cons_self, rfl⟩, fun y hy => ⟨y, List.mem_cons_of_mem _ hy, rfl⟩⟩
      · refine ⟨⟨k, by simp [hk], ek⟩, fun y hy => ?_⟩
        rcases List.mem_cons.1 hy with rfl | hy
        · exact ⟨y, by simp, rfl⟩
        · obtain ⟨k', g1, g2⟩ := h y hy
          exact ⟨k', by simp [g1], g2⟩
theorem keysOf_tally (l : List Rec) : Sorted (keysOf l []) ∧ (∀ k ∈ keysOf l [], (k.count, k.fold) = tally k.name l) ∧ (∀ x ∈ l, ∃ k ∈ keysOf l [], k.name = x.key) := by
  suffices h : ∀ n : Nat, ∀ l : List Rec, l.length = n → Sorted (keysOf l []) ∧ (∀ k ∈ keysOf l [], (k.count, k.fold) = tally k.name l) ∧ (∀ x ∈ l, ∃ k ∈ keysOf l [], k.name = x.key) from h _ l rfl
  intro n
  induction n with
  | zero =>
    intro l hl
    have : l = [] := List.length_eq_zero_iff.1 hl
    subst this
    exact ⟨List.Pairwise.nil, by simp [keysOf], by simp⟩
  | succ n ih =>
    intro l hl
    obtain ⟨r, x, rfl⟩ : ∃ r x, l = r ++ [x] := ⟨l.dropLast, l.getLast (by intro h; rw [h] at hl; simp at hl), (List.dropLast_concat_getLast _).symm⟩
    obtain ⟨h1, h2, h3⟩ := ih r (by simpa using hl)
    have e : keysOf (r ++ [x]) [] = takeKy x.key x.value (keysOf r []) := by rw [keysOf_append]; rfl
    rw [e]
    refine ⟨takeKy_sorted _ _ h1, fun k hk => ?_, fun y hy => ?_⟩
    · rw [tally_snoc]
      rcases takeKy_cases _ _ h1 k hk with ⟨g1, g2⟩ | ⟨y, g1, g2, g3⟩ | ⟨g1, g2⟩
      · have := h2 k g1
        rw [← this]
        unfold tallyOne
        rw [if_neg (fun e => g2 e.symm)]
      · have := h2 y g1
        rw [g3]
        simp only [Ky.more]
        rw [← this]
        unfold tallyOne
        rw [if_pos g2.symm]
      · have h0 : tally x.key r = (0, 0) := tally_none _ _ _ (fun y hy e => by
          obtain ⟨k', q1, q2⟩ := h3 y hy
          exact g2 k' q1 (q2.trans e))
        rw [g1]
        simp only [Ky.more]
        rw [h0]
        unfold tallyOne
        rw [if_pos rfl]
    · obtain ⟨t1, t2⟩ := takeKy_has x.key x.value (keysOf r [])
      rcases List.mem_append.1 hy with hy | hy
      · obtain ⟨k, q1, q2⟩ := h3 y hy
        obtain ⟨k', q3, q4⟩ := t2 k q1
        exact ⟨k', q3, q4.trans q2⟩
      · simp at hy
        subst hy
        exact t1
theorem OInv.key {all ol : List Rec} {s : St} (h : OInv all ol s) (hn : Numbered all) {k : Ky} (hk : k ∈ s.keys) : k.name ∈ names4 ∧ k.count = (tally k.name ol).1 ∧ k.fold = (tally k.name ol).2 := by
  have hm := h.names hn k.name (by unfold St.names; exact List.mem_append.2 (.inl (List.mem_map.2 ⟨k, hk, rfl⟩)))
  rw [h.keys] at hk
  have := (keysOf_tally ol).2.1 k hk
  rw [← this]
  exact ⟨hm, rfl, rfl⟩
theorem OInv.whole {all ol : List Rec} {s : St} (h : OInv all ol s) : counts s.keys = ol.length := by
  rw [h.keys, counts_keysOf]; simp [counts]
theorem OInv.all {all ol : List Rec} {s : St} (h : OInv all ol s) (hn : Numbered all) (hb : ∀ (i : Nat) (l : Ln), s.lanes[i]? = some l → (ofS all i).length ≤ l.base) : ol.length = all.length := by
  have ht := ofS_total all (fun x hx => ⟨(hn.each x hx).1, (hn.each x hx).2.1⟩)
  have hs := h.sum
  have hl := h.lane
  have h4 := h.four
  match e : s.lanes, h4 with
  | [l0, l1, l2, l3], _ =>
    rw [e] at hb hl hs
    have r0 := hb 0 l0 rfl
    have r1 := hb 1 l1 rfl
    have r2 := hb 2 l2 rfl
    have r3 := hb 3 l3 rfl
    have q0 := (hl 0 l0 rfl).hi
    have q1 := (hl 1 l1 rfl).hi
    have q2 := (hl 2 l2 rfl).hi
    have q3 := (hl 3 l3 rfl).hi
    simp only [bases] at hs
    omega
end Go.Proofs.YthedkdbgfdjlkaaGreatDoor

namespace Go.Proofs.YthedkdbgfdjlkaaGreatDoor
set_option linter.unusedVariables false
set_option linter.unusedSimpArgs false
open Go.RowKit Go.Lib
def idxR (m : Int) : List Rec → Nat → Int
  | [], _ => -1
  | x :: r, k => if x.number = m then k else idxR m r (k + 1)
theorem idxR_drop (m : Int) (ws : List Rec) (k : Nat) (x : Rec) (h : ws[k]? = some x) : idxR m (ws.drop k) k = if x.number = m then (k : Int) else idxR m (ws.drop (k + 1)) (k + 1) := by
  obtain ⟨hk, e⟩ := List.getElem?_eq_some_iff.1 h
  rw [List.drop_eq_getElem_cons hk, e]
  rfl
set_option maxHeartbeats 1000000 in
theorem waits_any {w : World} {lo b o : Nat} {v : Value} {ws : List Rec} (m : Int) (hv : w.cell? ⟨b, o + 2, none⟩ = some v) (hr : w.ownsRow lo 53 5 v ws.length (recCells ws)) (hl : ws.length ≤ 1000) :
    Calls Tryz.prog 83 #[.pointer (some ⟨b, o, none⟩), .int .i64 m] w fun e w' => e = .returned (.int .i64 (idxR m ws 0)) ∧ w' = w := by
  obtain ⟨p, cap, rfl⟩ := row_any hr
  go_enter Tryz.func83, Tryz.ntmps83
  go_wp2_with fail
  go_loopw [5] (fun si wr => ∃ i : Nat, si = .int .i64 i ∧ i ≤ ws.length ∧ Hid (idxR m ws 0 = idxR m (ws.drop i) i) ∧ Hid (wr = w)) (fun si _ => ws.length - (intOf si).toNat)
  case atStart => exact ⟨0, rfl, by omega, (show _ = _ by simp), (show _ = _ from rfl)⟩
  case round =>
    obtain ⟨i, rfl, hi, HE, HW⟩ := hrel
    have hv1 : wr.cell? ⟨b, o + 2, none⟩ = some (.slice p ws.length cap) := by rw [HW.out]; exact hv
    by_cases hil : i < ws.length
    · have hil' : (i : Int) < (ws.length : Int) := by omega
      obtain ⟨x, hx⟩ : ∃ x, ws[i]? = some x := ⟨_, List.getElem?_eq_getElem hil⟩
      obtain ⟨g, cap', hvs, _, _, hcell⟩ := row_pos hr (by omega)
      simp only [Value.slice.injEq] at hvs
      obtain ⟨rfl, _, rfl⟩ := hvs
      have m2 : wr.cell? ⟨g, i * 5 + 2, none⟩ = some (.int .i64 x.number) := by rw [HW.out]; exact hcell _ _ (recCells_at ws i x hx).2.2.1
      have hnx := idxR_drop m ws i x hx
      clear hcell
      by_cases hxm : x.number = m
      · have HE' : Hid (idxR m ws 0 = i) := by show _ = _; rw [HE.out, hnx, if_pos hxm]
        rw [hxm] at m2
        clear HE hnx hxm
        go_wp2_with fail
        go_ret
        exact ⟨by rw [HE'.out]; rfl, HW.out⟩
      · have HE' : Hid (idxR m ws 0 = idxR m (ws.drop (i + 1)) (i + 1)) := by show _ = _; rw [HE.out, hnx, if_neg hxm]
        have hxm' : (x.number == m) = false := by simpa using hxm
        clear HE hnx hxm
        go_wp2_with fail
        exact ⟨⟨i + 1, by go_num, by omega, HE', HW⟩, by simp [intOf]; omega⟩
    · have hil' : ¬ (i : Int) < (ws.length : Int) := by omega
      have HE' : Hid (idxR m ws 0 = -1) := by show _ = _; rw [HE.out, List.drop_of_length_le (by omega)]; rfl
      clear HE
      go_wp2_with fail
      go_ret
      exact ⟨by rw [HE'.out]; rfl, HW.out⟩
def strCells (l : List ByteArray) : List Value := l.map .string
theorem strCells_at {l : List ByteArray} {i : Nat} {x : ByteArray} (h : l[i]? = some x) : (strCells l)[i]? = some (.string x) := by
  unfold strCells
  rw [List.getElem?_map, h]
  rfl
def insN (s : ByteArray) : List ByteArray → List ByteArray
  | [] => [s]
  | y :: r => if y = s then y :: r else if less s y then s :: y :: r else y :: insN s r
def UpN (l : List ByteArray) : Prop := l.Pairwise fun a b => less a b = true
def lowN (s : ByteArray) : List ByteArray → Nat
  | [] => 0
  | y :: r => if less y s then lowN s r + 1 else 0
theorem lowN_le (s : ByteArray) : ∀ l, lowN s l ≤ l.length
  | [] => Nat.le_refl _
  | y :: r => by
    have := lowN_le s r
    unfold lowN; split <;> simp <;> omega
theorem lowN_iff (s : ByteArray) : ∀ {l : List ByteArray}, UpN l → ∀ {i : Nat} {x : ByteArray}, l[i]? = some x → (less x s = true ↔ i < lowN s l)
  | [], _, i, x, h => by simp at h
  | y :: r, hu, i, x, h => by
    obtain ⟨h1, h2⟩ := List.pairwise_cons.1 hu
    unfold lowN
    cases i with
    | zero =>
      simp at h
      subst h
      split
      · rename_i hl; simp [hl]
      · rename_i hl; simp [hl]
    | succ i =>
      have hx : r[i]? = some x := by simpa using h
      have ih := lowN_iff s h2 hx
      split
      · rw [ih]; omega
      · rename_i hl
        constructor
        · intro hxs
          have := less_trans (h1 x (List.mem_of_getElem? hx)) hxs
          exact absurd this hl
        · intro h; omega
theorem insN_in (s : ByteArray) : ∀ {l : List ByteArray}, s ∈ l → UpN l → insN s l = l
  | [], h, _ => by simp at h
  | y :: r, h, hu => by
    obtain ⟨h1, h2⟩ := List.pairwise_cons.1 hu
    unfold insN
    by_cases e : y = s
    · rw [if_pos e]
    · rw [if_neg e]
      have hr : s ∈ r := by
        rcases List.mem_cons.1 h with h | h
        · exact absurd h.symm e
        · exact h
      have hys := h1 s hr
      rw [if_neg (by rw [less_asymm hys]; simp), insN_in s hr h2]
theorem insN_new (s : ByteArray) : ∀ {l : List ByteArray}, s ∉ l → insN s l = l.take (lowN s l) ++ [s] ++ l.drop (lowN s l)
  | [], _ => by simp [insN, lowN]
  | y :: r, h => by
    have hy : ¬ y = s := fun e => h (by simp [e])
    have hr : s ∉ r := fun e => h (by simp [e])
    unfold insN lowN
    rw [if_neg hy]
    rcases less_tri y s with hl | hl | hl
    · rw [if_neg (by rw [less_asymm hl]; simp), if_pos hl, insN_new s hr]
      simp
    · exact absurd hl hy
    · rw [if_pos hl, if_neg (by rw [less_asymm hl]; simp)]
      simp
theorem mem_insN (s : ByteArray) : ∀ (l : List ByteArray) (x : ByteArray), x ∈ insN s l ↔ x = s ∨ x ∈ l
  | [], x => by simp [insN]
  | y :: r, x => by
    unfold insN
    split
    · rename_i e
      subst e
      simp
    · split
      · simp
      · simp only [List.mem_cons, mem_insN s r x]
        constructor
        · rintro (h | h | h) <;> simp [h]
        · rintro (h | h | h) <;> simp [h]
theorem insN_up (s : ByteArray) : ∀ {l : List ByteArray}, UpN l → UpN (insN s l)
  | [], _ => by simp [insN, UpN]
  | y :: r, hu => by
    obtain ⟨h1, h2⟩ := List.pairwise_cons.1 hu
    unfold insN
    split
    · exact hu
    · rename_i hne
      split
      · rename_i hl
        refine List.pairwise_cons.2 ⟨fun z hz => ?_, hu⟩
        rcases List.mem_cons.1 hz with rfl | hz
        · exact hl
        · exact less_trans hl (h1 z hz)
      · rename_i hl
        refine List.pairwise_cons.2 ⟨fun z hz => ?_, insN_up s h2⟩
        rcases (mem_insN s r z).1 hz with rfl | hz
        · rcases less_tri y z with h | h | h
          · exact h
          · exact absurd h hne
          · exact absurd h hl
        · exact h1 z hz
theorem insN_len (s : ByteArray) : ∀ (l : List ByteArray), (insN s l).length ≤ l.length + 1
  | [] => by simp [insN]
  | y :: r => by
    have := insN_len s r
    unfold insN
    split
    · simp
    · split <;> simp <;> omega
theorem Tryz.infoStr : (Tryz.prog.info? 9).map (fun i => (i.zero, i.size, i.bytes)) = some (some (.string { data := #[] }), 1, 16) := by kernel_rfl
def SrcAt (w : World) (x : Value) (m : Nat) (news : List Value) : Prop :=
  (x = .slice none 0 0 ∧ m = 0 ∧ news = []) ∨ ∃ ad c, x = .slice (some ad) m c ∧ ∀ j u, news[j]? = some u → w.cell? (ad.add j) = some u
theorem SrcAt.first {w : World} {lo : Nat} {e : TypeId} {size g n cap : Nat} {xs : List Value} (h : w.ownsRow lo e size (.slice (some ⟨g, 0, none⟩) n cap) n xs) (a c : Nat) : SrcAt w (.slice (some ⟨g, 0, none⟩) a c) a (xs.take (a * size)) :=
  .inr ⟨_, _, rfl, fun j u hj => by
    rw [add_lit', Nat.zero_add]
    refine row_cell h ?_
    rw [List.getElem?_take] at hj
    split at hj
    · exact hj
    · cases hj⟩
theorem SrcAt.last {w : World} {lo : Nat} {e : TypeId} {size g n cap : Nat} {xs : List Value} (h : w.ownsRow lo e size (.slice (some ⟨g, 0, none⟩) n cap) n xs) (a m c : Nat) : SrcAt w (.slice (some ⟨g, a * size, none⟩) m c) m (xs.drop (a * size)) :=
  .inr ⟨_, _, rfl, fun j u hj => by
    rw [add_lit']
    refine row_cell h ?_
    rw [List.getElem?_drop] at hj
    exact hj⟩
theorem SrcAt.none_at {w : World} (ad : Addr) (c : Nat) : SrcAt w (.slice (some ad) 0 c) 0 [] := .inr ⟨_, _, rfl, fun j u hj => by simp at hj⟩
theorem SrcAt.one {w : World} (o : Obj) {b : Nat} {news : List Value} (hb : b = w.heap.size) (h : ∀ j u, news[j]? = some u → (w.alloc o).cell? ⟨w.heap.size, j, none⟩ = some u) : SrcAt (w.alloc o) (.slice (some ⟨b, 0, none⟩) 1 1) 1 news :=
  .inr ⟨_, _, rfl, fun j u hj => by rw [add_lit', Nat.zero_add, hb]; exact h j u hj⟩
theorem run_append_src {P : Program} (w : World) (base : Nat) (t ty e : TypeId) (i : TypeInfo) (z : Value) (size bytes : Nat) (h1 : P.underlying t = some (.slice e)) (h2 : P.info? e = some i) (h3 : i.zero = some z) (h4 : i.size = size) (h5 : i.bytes = bytes) (h6 : z.cells.size = size) (h7 : 0 < size)
    (v : Value) (n : Nat) (xs : List Value) (hown : w.ownsRow base e size v n xs)
    (x : Value) (m : Nat) (news : List Value) (hs : SrcAt w x m news) (hn : news.length = m * size) (h1c : ∀ u ∈ news, u.oneCell' = true)
    (b1 : n + m ≤ maxLen) (b2 : (n + m) * bytes ≤ 140737488355328) (hb : base ≤ w.heap.size) :
    ∃ v' w', (Builtin.append_ #[t, t] ty #[v, x]).run P w = .ok v' w' ∧ w'.ownsRow base e size v' (n + m) (xs ++ news) ∧ w.grownBy w' v.ownBlock ∧
      (v'.ownBlock = v.ownBlock ∨ ∀ k, v'.ownBlock = some k → w.heap.size ≤ k) := by
  rcases hs with ⟨rfl, rfl, rfl⟩ | ⟨ad, c, rfl, hc⟩
  · exact ⟨v, w, run_append_owned_none (P := P) w base t ty e i size h1 h2 v n xs hown, by simpa using hown, ⟨rfl, rfl, rfl, Nat.le_refl _, fun _ _ _ => rfl⟩, .inl rfl⟩
  · exact run_append_where w base t ty e i z size bytes h1 h2 h3 h4 h5 h6 h7 v n xs hown ad m c news hn hc h1c b1 b2 hb
end Go.Proofs.YthedkdbgfdjlkaaGreatDoor

namespace Go.Proofs.YthedkdbgfdjlkaaGreatDoor
set_option linter.unusedVariables false
set_option linter.unusedSimpArgs false
open Go.RowKit Go.Lib
set_option maxRecDepth 100000 in
set_option maxHeartbeats 4000000 in
theorem rput_any {w : World} {lo : Nat} {v : Value} {l : List ByteArray} (s : ByteArray) (hr : w.ownsRow lo 9 1 v l.length (strCells l)) (hl : l.length ≤ 2000) (hu : UpN l) (hlo : lo ≤ w.heap.size) :
    Calls Tryz.prog 125 #[v, .string s] w fun e w' => ∃ v', e = .returned v' ∧ w'.ownsRow lo 9 1 v' (insN s l).length (strCells (insN s l)) ∧ Chg (fun _ => False) w w' := by
  obtain ⟨i0, hi0, hz0, hz1, hz2⟩ := info_parts Tryz.infoStr
  obtain ⟨p, cap, rfl⟩ := row_any hr
  obtain ⟨Q, hQ⟩ : ∃ Q, Q = lowN s l := ⟨_, rfl⟩
  have hQl : Q ≤ l.length := by rw [hQ]; exact lowN_le s l
  go_enter Tryz.func125, Tryz.ntmps125
  go_wp2_with fail
  go_loopw [5, 6] (fun sa si wr => ∃ (a i : Nat), si = .int .i64 i ∧ i ≤ l.length ∧ sa = .int .i64 a ∧ Hid (a = min i Q) ∧ Hid (∀ j x, j < i → l[j]? = some x → x ≠ s) ∧ Hid (wr = w)) (fun _ si _ => l.length - (intOf si).toNat)
  case atStart => exact ⟨0, 0, rfl, by omega, rfl, (show _ = _ by simp), (fun j x hj => by omega), (show _ = _ from rfl)⟩
  case round =>
    obtain ⟨a, i, rfl, hi, rfl, HA, HN, HW⟩ := hrel
    by_cases hil : i < l.length
    · have hil' : (i : Int) < (l.length : Int) := by omega
      obtain ⟨x, hx⟩ : ∃ x, l[i]? = some x := ⟨_, List.getElem?_eq_getElem hil⟩
      obtain ⟨g, cap', hvs, _, _, hcell⟩ := row_pos hr (by omega)
      simp only [Value.slice.injEq] at hvs
      obtain ⟨rfl, _, rfl⟩ := hvs
      have m0 : wr.cell? ⟨g, i, none⟩ = some (.string x) := by rw [HW.out]; exact hcell _ _ (strCells_at hx)
      have hlw := lowN_iff s hu hx
      rw [← hQ] at hlw
      clear hcell
      by_cases hxs : x = s
      · rw [hxs] at m0
        have HE : Hid (insN s l = l) := insN_in s (by rw [← hxs]; exact List.mem_of_getElem? hx) hu
        clear hlw hxs
        go_wp2_with fail
        go_ret
        exact ⟨_, rfl, by rw [HE.out, HW.out]; exact hr, by rw [HW.out]; exact Chg.refl _ _⟩
      · have hxn : (x.toList == s.toList) = false := by
          rw [beq_eq_false_iff_ne]
          intro e
          rw [ByteArray.toList_eq, ByteArray.toList_eq] at e
          exact hxs (ByteArray.ext (Array.toList_inj.1 e))
        have HN' : Hid (∀ j x, j < i + 1 → l[j]? = some x → x ≠ s) := fun j y hj hy => by
          by_cases e : j = i
          · subst e; rw [hx] at hy; rw [← Option.some.inj hy]; exact hxs
          · exact HN.out j y (by omega) hy
        by_cases hls : less x s = true
        · have hq : i < Q := hlw.1 hls
          have hls' : Op.bytesLess x.toList s.toList = true := by rw [ByteArray.toList_eq, ByteArray.toList_eq]; exact hls
          have HA' : Hid (i + 1 = min (i + 1) Q) := by show _ = _; omega
          clear hlw HN HA hxs
          go_wp2_with fail
          exact ⟨⟨i + 1, i + 1, by go_num, by omega, by go_num, HA', HN', HW⟩, by simp [intOf]; omega⟩
        · have hq : ¬ i < Q := fun h => hls (hlw.2 h)
          have hls' : Op.bytesLess x.toList s.toList = false := by rw [ByteArray.toList_eq, ByteArray.toList_eq]; simpa [less] using hls
          have HA' : Hid (a = min (i + 1) Q) := by show _ = _; have := HA.out; omega
          clear hlw HN HA hxs
          go_wp2_with fail
          exact ⟨⟨a, i + 1, by go_num, by omega, rfl, HA', HN', HW⟩, by simp [intOf]; omega⟩
    · have hil' : ¬ (i : Int) < (l.length : Int) := by omega
      have haQ : a = Q := by have := HA.out; omega
      have hnot : s ∉ l := fun h => by
        obtain ⟨j, hj, e⟩ := List.getElem_of_mem h
        exact HN.out j s (by omega) (by rw [List.getElem?_eq_getElem hj, e]) rfl
      have HE : Hid (insN s l = l.take a ++ [s] ++ l.drop a) := by show _ = _; rw [insN_new s hnot, ← hQ, haQ]
      have hal : a ≤ l.length := by omega
      have hwr : wr = w := HW.out
      rw [hwr]
      clear hnot HN HA HW hwr haQ hQ hQl
      have hown0 : w.ownsRow w.heap.size 9 1 (.slice none 0 0) 0 [] := World.ownsRow_nil _ _ _ _
      have h1c : ∀ (L : List ByteArray) (u : Value), u ∈ strCells L → u.oneCell' = true := fun L u hu => by
        obtain ⟨x, _, rfl⟩ := List.mem_map.1 hu
        rfl
      have hlenS : ∀ L : List ByteArray, (strCells L).length = L.length * 1 := fun L => by simp [strCells]
      have key : ∀ (x1 x3 : Value) (n3 : Nat), SrcAt w x1 a (strCells (l.take a)) → (∀ W, Chg (fun _ => False) w W → SrcAt W x3 n3 (strCells (l.drop a))) → n3 = l.length - a → ∃ v1 w1 v2 w2 v3 w3, (Builtin.append_ #[34, 34] 34 #[.slice none 0 0, x1]).run Tryz.prog w = .ok v1 w1 ∧ (Builtin.append_ #[34, 34] 34 #[v1, .slice (some ⟨w1.heap.size, 0, none⟩) 1 1]).run Tryz.prog (w1.alloc (.cells #[.string s] 9)) = .ok v2 w2 ∧ (Builtin.append_ #[34, 34] 34 #[v2, x3]).run Tryz.prog w2 = .ok v3 w3 ∧ w3.ownsRow w.heap.size 9 1 v3 (l.take a ++ [s] ++ l.drop a).length (strCells (l.take a ++ [s] ++ l.drop a)) ∧ Chg (fun _ => False) w w3 := by
        intro x1 x3 n3 hs1 hs3 hn3
        obtain ⟨v1, w1, r1, o1, g1, e1⟩ := run_append_src (P := Tryz.prog) w w.heap.size 34 34 9 i0 _ 1 16 Tryz.underlying34 hi0 hz0 hz1 hz2 rfl (by decide) _ 0 [] hown0 x1 a _ hs1 (by rw [hlenS]; simp; omega) (h1c _) (by unfold maxLen; omega) (by omega) (Nat.le_refl _)
        have c1 : Chg (fun _ => False) w w1 := (Chg.refl _ w).trans (G := fun g => (Value.slice none 0 0).ownBlock = some g) ⟨g1.os, g1.tape, g1.output, g1.size, fun k hk hne => g1.block k hk (fun e => hne e.symm)⟩ (fun n hn h => by simp [Value.ownBlock] at h)
        have c1a : Chg (fun _ => False) w1 (w1.alloc (.cells #[.string s] 9)) := (Chg.refl _ w1).alloc _
        obtain ⟨v2, w2, r2, o2, g2, e2⟩ := run_append_src (P := Tryz.prog) (w1.alloc (.cells #[.string s] 9)) w.heap.size 34 34 9 i0 _ 1 16 Tryz.underlying34 hi0 hz0 hz1 hz2 rfl (by decide) _ _ _ (o1.alloc _) (.slice (some ⟨w1.heap.size, 0, none⟩) 1 1) 1 [.string s] (SrcAt.one _ rfl (fun j u hj => by rcases j with _ | j <;> simp at hj; subst hj; exact World.cell?_alloc_at _ _ _ _ rfl)) (by simp) (by simp [Value.oneCell']) (by unfold maxLen; omega) (by omega) (by have := c1.size; have := c1a.size; omega)
        have c2 : Chg (fun _ => False) w w2 := (c1.trans c1a (fun _ _ h => h)).trans (G := fun g => v1.ownBlock = some g) ⟨g2.os, g2.tape, g2.output, g2.size, fun k hk hne => g2.block k hk (fun e => hne e.symm)⟩ (fun n hn h => by have := (o1.lt n h).1; omega)
        obtain ⟨v3, w3, r3, o3, g3, e3⟩ := run_append_src (P := Tryz.prog) w2 w.heap.size 34 34 9 i0 _ 1 16 Tryz.underlying34 hi0 hz0 hz1 hz2 rfl (by decide) _ _ _ o2 x3 n3 _ (hs3 w2 c2) (by rw [hlenS]; simp; omega) (h1c _) (by unfold maxLen; omega) (by omega) c2.size
        have c3 : Chg (fun _ => False) w w3 := c2.trans (G := fun g => v2.ownBlock = some g) ⟨g3.os, g3.tape, g3.output, g3.size, fun k hk hne => g3.block k hk (fun e => hne e.symm)⟩ (fun n hn h => by have := (o2.lt n h).1; omega)
        refine ⟨v1, w1, v2, w2, v3, w3, r1, r2, r3, ?_, c3⟩
        have e1 : 0 + a + 1 + n3 = (l.take a ++ [s] ++ l.drop a).length := by simp; omega
        have e2 : [] ++ strCells (l.take a) ++ [.string s] ++ strCells (l.drop a) = strCells (l.take a ++ [s] ++ l.drop a) := by simp [strCells]
        rw [← e1, ← e2]
        exact o3
      cases p with
      | none =>
        have hl0 : l.length = 0 ∧ cap = 0 := by
          rcases hr.2 with ⟨hv, h0⟩ | ⟨g, cap', cur, hv, _⟩
          · simp only [Value.slice.injEq] at hv; exact ⟨h0, hv.2.2⟩
          · simp at hv
        obtain ⟨hl0, rfl⟩ := hl0
        have hln : l = [] := List.eq_nil_of_length_eq_zero hl0
        subst hln
        have ha0 : a = 0 := by simpa using hal
        subst ha0
        obtain ⟨v1, w1, v2, w2, v3, w3, r1, r2, r3, o3, c3⟩ := key (.slice none 0 0) (.slice none 0 0) 0 (.inl ⟨rfl, rfl, rfl⟩) (fun W _ => .inl ⟨rfl, rfl, rfl⟩) rfl
        clear key
        go_wp2_with (first | (at_builtin; refine Lib.wpList_append_run _ rfl (.tmp 29) (.tmp 32) 34 34 rfl _ _ rfl rfl v1 w1 r1 ?_) | (at_builtin; refine Lib.wpList_append_run _ rfl (.tmp 34) (.tmp 36) 34 34 rfl _ _ rfl rfl v2 w2 r2 ?_) | (at_builtin; refine Lib.wpList_append_run _ rfl (.tmp 38) (.tmp 41) 34 34 rfl _ _ rfl rfl v3 w3 r3 ?_))
        go_ret
        exact ⟨v3, rfl, by rw [HE.out]; exact row_lower o3 hlo, c3⟩
      | some g0 =>
        obtain ⟨g, rfl, hcap⟩ : ∃ g, g0 = ⟨g, 0, none⟩ ∧ l.length ≤ cap := by
          rcases hr.2 with ⟨hv, _⟩ | ⟨g, cap', cur, hv, _, _, hcap, _⟩
          · simp at hv
          · simp only [Value.slice.injEq, Option.some.injEq] at hv
            exact ⟨g, hv.1, by rw [hv.2.2]; exact hcap⟩
        have hac : (a : Int) ≤ (cap : Int) := by omega
        have hal' : (a : Int) ≤ (l.length : Int) := by omega
        have hlc' : (l.length : Int) ≤ (cap : Int) := by omega
        have hs1 : SrcAt w (.slice (some ⟨g, 0, none⟩) a cap) a (strCells (l.take a)) := by
          have := SrcAt.first hr a cap
          rw [Nat.mul_one] at this
          have e : (strCells l).take a = strCells (l.take a) := by simp [strCells, List.map_take]
          rw [e] at this
          exact this
        by_cases hca : cap = a
        · have hla : l.length = a := by omega
          subst hca
          have hd : l.drop l.length = [] := List.drop_of_length_le (Nat.le_refl _)
          obtain ⟨v1, w1, v2, w2, v3, w3, r1, r2, r3, o3, c3⟩ := key (.slice (some ⟨g, 0, none⟩) cap cap) (.slice (some ⟨g, 0, none⟩) 0 0) 0 hs1 (fun W _ => by rw [← hla, hd]; exact SrcAt.none_at _ _) (by omega)
          have HLA : Hid (l.length = cap) := hla
          rw [hla]
          clear key hd hla
          go_wp2_with (first | (at_builtin; refine Lib.wpList_append_run _ rfl (.tmp 29) (.tmp 32) 34 34 rfl _ _ rfl rfl v1 w1 r1 ?_) | (at_builtin; refine Lib.wpList_append_run _ rfl (.tmp 34) (.tmp 36) 34 34 rfl _ _ rfl rfl v2 w2 r2 ?_) | (at_builtin; refine Lib.wpList_append_run _ rfl (.tmp 38) (.tmp 41) 34 34 rfl _ _ rfl rfl v3 w3 r3 ?_))
          go_ret
          exact ⟨v3, rfl, by rw [HE.out]; exact row_lower o3 hlo, c3⟩
        · obtain ⟨v1, w1, v2, w2, v3, w3, r1, r2, r3, o3, c3⟩ := key (.slice (some ⟨g, 0, none⟩) a cap) (.slice (some ⟨g, a, none⟩) (l.length - a) (cap - a)) (l.length - a) hs1 (fun W cW => by
            have := SrcAt.last (cW.row' hr (fun _ _ h => h)) a (l.length - a) (cap - a)
            rw [Nat.mul_one] at this
            have e : (strCells l).drop a = strCells (l.drop a) := by simp [strCells, List.map_drop]
            rw [e] at this
            exact this) rfl
          clear key
          go_wp2_with (first | (at_builtin; refine Lib.wpList_append_run _ rfl (.tmp 29) (.tmp 32) 34 34 rfl _ _ rfl rfl v1 w1 r1 ?_) | (at_builtin; refine Lib.wpList_append_run _ rfl (.tmp 34) (.tmp 36) 34 34 rfl _ _ rfl rfl v2 w2 r2 ?_) | (at_builtin; refine Lib.wpList_append_run _ rfl (.tmp 38) (.tmp 41) 34 34 rfl _ _ rfl rfl v3 w3 r3 ?_))
          go_ret
          exact ⟨v3, rfl, by rw [HE.out]; exact row_lower o3 hlo, c3⟩
end Go.Proofs.YthedkdbgfdjlkaaGreatDoor

namespace Go.Proofs.YthedkdbgfdjlkaaGreatDoor
set_option linter.unusedVariables false
set_option linter.unusedSimpArgs false
open Go.RowKit Go.Lib
def namesR (T : List Rec) (l : List ByteArray) : List ByteArray := T.foldl (fun l x => insN x.key l) l
theorem namesR_next {T : List Rec} {i : Nat} {x : Rec} (h : T[i]? = some x) (l : List ByteArray) : namesR (T.take (i + 1)) l = insN x.key (namesR (T.take i) l) := by
  obtain ⟨hl, e⟩ := List.getElem?_eq_some_iff.1 h
  unfold namesR
  rw [List.take_succ_eq_append_getElem hl, e, List.foldl_append]
  rfl
theorem namesR_up : ∀ (T : List Rec) {l : List ByteArray}, UpN l → UpN (namesR T l)
  | [], l, h => h
  | x :: r, l, h => namesR_up r (insN_up x.key h)
theorem namesR_len : ∀ (T : List Rec) (l : List ByteArray), (namesR T l).length ≤ l.length + T.length
  | [], l => by simp [namesR]
  | x :: r, l => by
    have h1 := namesR_len r (insN x.key l)
    have h2 := insN_len x.key l
    simp only [namesR, List.foldl_cons, List.length_cons] at h1 ⊢
    omega
theorem namesR_mem : ∀ (T : List Rec) (l : List ByteArray) (k : ByteArray), k ∈ namesR T l ↔ k ∈ l ∨ ∃ x ∈ T, x.key = k
  | [], l, k => by simp [namesR]
  | x :: r, l, k => by
    have h := namesR_mem r (insN x.key l) k
    simp only [namesR, List.foldl_cons] at h ⊢
    rw [h, mem_insN]
    constructor
    · rintro ((h | h) | ⟨y, hy, e⟩)
      · exact .inr ⟨x, by simp, h.symm⟩
      · exact .inl h
      · exact .inr ⟨y, by simp [hy], e⟩
    · rintro (h | ⟨y, hy, e⟩)
      · exact .inl (.inr h)
      · rcases List.mem_cons.1 hy with rfl | hy
        · exact .inl (.inl e.symm)
        · exact .inr ⟨y, hy, e⟩
set_option maxHeartbeats 2000000 in
theorem rnames_any {w : World} {lo b : Nat} {vt : Value} {T : List Rec} (hv : w.cell? ⟨b, 12, none⟩ = some vt) (hr : w.ownsRow lo 53 5 vt T.length (recCells T)) (hT : T.length ≤ 1000) :
    Calls Tryz.prog 85 #[.pointer (some ⟨b, 0, none⟩)] w fun e w' => ∃ vn, e = .returned vn ∧ w'.ownsRow w.heap.size 9 1 vn (namesR T []).length (strCells (namesR T [])) ∧ Chg (fun _ => False) w w' := by
  obtain ⟨p, cap, rfl⟩ := row_any hr
  go_enter Tryz.func85, Tryz.ntmps85
  go_wp2_with fail
  go_loopw [3, 4] (fun sl si wr => ∃ i : Nat, si = .int .i64 i ∧ i ≤ T.length ∧ wr.ownsRow w.heap.size 9 1 sl (namesR (T.take i) []).length (strCells (namesR (T.take i) [])) ∧ Chg (fun _ => False) w wr) (fun _ si _ => T.length - (intOf si).toNat)
  case atStart => exact ⟨0, rfl, by omega, World.ownsRow_nil _ _ _ _, Chg.refl _ _⟩
  case round =>
    obtain ⟨i, rfl, hi, hown, hc⟩ := hrel
    have hv1 := hc.cellAt hv id
    by_cases hil : i < T.length
    · have hil' : (i : Int) < (T.length : Int) := by omega
      obtain ⟨x, hx⟩ : ∃ x, T[i]? = some x := ⟨_, List.getElem?_eq_getElem hil⟩
      obtain ⟨g, cap', hvs, _, _, hcell⟩ := row_pos hr (by omega)
      simp only [Value.slice.injEq] at hvs
      obtain ⟨rfl, _, rfl⟩ := hvs
      have m3 := hc.cellAt (hcell _ _ (recCells_at T i x hx).2.2.2.1) id
      have hnx := namesR_next hx []
      have hnl : (namesR (T.take i) []).length ≤ 1000 := by
        have := namesR_len (T.take i) []
        simp only [List.length_take, List.length_nil] at this
        omega
      have hpt := rput_any x.key hown (by omega) (namesR_up _ List.Pairwise.nil) hc.size
      rw [← hnx] at hpt
      clear hcell hnx
      go_wp2_with fail
      refine hpt.mono ?_
      rintro _ w2 ⟨v2, rfl, o2, c2⟩
      clear hpt
      go_wp2_with fail
      exact ⟨⟨i + 1, by go_num, by omega, o2, hc.trans c2 (fun _ _ h => h)⟩, by simp [intOf]; omega⟩
    · have hil' : ¬ (i : Int) < (T.length : Int) := by omega
      rw [List.take_of_length_le (by omega)] at hown
      go_wp2_with fail
      go_ret
      exact ⟨_, rfl, hown, hc⟩
def allR (T : List Rec) (Q : Nat → List Rec) : Nat → List ByteArray
  | 0 => namesR T []
  | i + 1 => namesR (Q i) (allR T Q i)
def waitsR (Q : Nat → List Rec) : Nat → Int
  | 0 => 0
  | i + 1 => waitsR Q i + (Q i).length
theorem allR_up (T : List Rec) (Q : Nat → List Rec) : ∀ i, UpN (allR T Q i)
  | 0 => namesR_up _ List.Pairwise.nil
  | i + 1 => namesR_up _ (allR_up T Q i)
theorem allR_len (T : List Rec) (Q : Nat → List Rec) (hq : ∀ i, i < 4 → (Q i).length ≤ 4) : ∀ i, i ≤ 4 → (allR T Q i).length ≤ T.length + 4 * i
  | 0, _ => by have := namesR_len T []; simpa [allR] using this
  | i + 1, h => by
    have h1 := allR_len T Q hq i (by omega)
    have h2 := namesR_len (Q i) (allR T Q i)
    have h3 := hq i (by omega)
    simp only [allR]
    omega
theorem waitsR_range (Q : Nat → List Rec) (hq : ∀ i, i < 4 → (Q i).length ≤ 4) : ∀ i, i ≤ 4 → 0 ≤ waitsR Q i ∧ waitsR Q i ≤ 4 * i
  | 0, _ => by simp [waitsR]
  | i + 1, h => by
    have h1 := waitsR_range Q hq i (by omega)
    have h3 := hq i (by omega)
    simp only [waitsR]
    omega
def fullR (T : List Rec) (Q : Nat → List Rec) (key : ByteArray) : Int :=
  if (allR T Q 4).length < (insN key (allR T Q 4)).length ∧ 4 ≤ (allR T Q 4).length then 6 else if 1000 ≤ T.length + waitsR Q 4 then 7 else 0
set_option maxRecDepth 100000 in
set_option maxHeartbeats 4000000 in
theorem rfull_any {w : World} {lo b : Nat} {vt : Value} {T : List Rec} {V : Nat → Value} {Q : Nat → List Rec} (x : Rec) (hv : w.cell? ⟨b, 12, none⟩ = some vt) (hr : w.ownsRow lo 53 5 vt T.length (recCells T)) (hT : T.length ≤ 1000)
    (hV : ∀ i, i < 4 → w.cell? ⟨b, i * 3 + 2, none⟩ = some (V i)) (hrv : ∀ i, i < 4 → w.ownsRow lo 53 5 (V i) (Q i).length (recCells (Q i))) (hq : ∀ i, i < 4 → (Q i).length ≤ 4) :
    Calls Tryz.prog 84 #[.pointer (some ⟨b, 0, none⟩), x.value'] w fun e w' => e = .returned (.int .i64 (fullR T Q x.key)) ∧ Chg (fun _ => False) w w' := by
  obtain ⟨W0, hW0⟩ : ∃ W0, W0 = w.alloc (Obj.cells #[.int .i64 x.session, .int .i64 x.epoch, .int .i64 x.number, .string x.key, .int .i64 x.value] 53) := ⟨_, rfl⟩
  have c0 : Chg (fun _ => False) w W0 := by rw [hW0]; exact (Chg.refl _ w).alloc _
  have k0 : W0.cell? ⟨w.heap.size, 3, none⟩ = some (.string x.key) := by rw [hW0]; exact World.cell?_alloc_at _ _ _ _ rfl
  have hnm := rnames_any (c0.cellAt hv id) (c0.row' hr (fun _ _ h => h)) hT
  obtain ⟨pt, ct, rfl⟩ := row_any hr
  unfold Rec.value'
  go_enter Tryz.func84, Tryz.ntmps84
  go_wp2_with fail
  rw [← hW0]
  refine hnm.mono ?_
  rintro _ w1 ⟨vn, rfl, o1, c1⟩
  clear hnm hW0
  have c01 : Chg (fun _ => False) w w1 := c0.trans c1 (fun _ _ h => h)
  have hz0 := c0.size
  have hv1 := c01.cellAt hv id
  go_wp2_with fail
  go_loopw [5, 6, 7, 8] (fun sl sn si _ wr => ∃ (i : Nat) (n : Int), si = .int .i64 i ∧ i ≤ 4 ∧ sn = .int .i64 n ∧ Hid (n = T.length + waitsR Q i) ∧ wr.ownsRow w.heap.size 9 1 sl (allR T Q i).length (strCells (allR T Q i)) ∧ Chg (fun _ => False) w wr ∧ wr.cell? ⟨w.heap.size, 3, none⟩ = some (.string x.key)) (fun _ _ si _ _ => 4 - (intOf si).toNat)
  case atStart => exact ⟨0, T.length, rfl, by omega, rfl, (show _ = _ by simp [waitsR]), row_lower o1 hz0, c01, c1.cellAt k0 id⟩
  case round =>
    obtain ⟨i, n, rfl, hi, rfl, HN, hown, hc, hk⟩ := hrel
    clear o1 c01 c1 hv1
    have hwr := waitsR_range Q hq i hi
    have hn : 0 ≤ n ∧ n ≤ 1100 := by have := HN.out; omega
    have hal := allR_len T Q hq i hi
    by_cases hi4 : i < 4
    · have hi4' : (i : Int) < 4 := by omega
      obtain ⟨pq, cq, hpq⟩ := row_any (hrv i hi4)
      have hql := hq i hi4
      go_wp2_with fail
      go_loopw [5, 6, 8] (fun sl sn sk wq => ∃ (k : Nat) (m : Int), sk = .int .i64 k ∧ k ≤ (Q i).length ∧ sn = .int .i64 m ∧ Hid (m = n + k) ∧ wq.ownsRow w.heap.size 9 1 sl (namesR ((Q i).take k) (allR T Q i)).length (strCells (namesR ((Q i).take k) (allR T Q i))) ∧ Chg (fun _ => False) w wq ∧ wq.cell? ⟨w.heap.size, 3, none⟩ = some (.string x.key)) (fun _ _ sk _ => (Q i).length - (intOf sk).toNat)
      case atStart => exact ⟨0, n, rfl, by omega, rfl, (show _ = _ by simp), by simpa [namesR] using hown, hc, hk⟩
      case round =>
        clear hown hc hk
        obtain ⟨k, m, rfl, hk1, rfl, HM, hown, hc, hk⟩ := hrel
        have hvq := hc.cellAt (hV i hi4) id
        rw [hpq] at hvq
        have hm : 0 ≤ m ∧ m ≤ 1200 := by have := HM.out; omega
        by_cases hkl : k < (Q i).length
        · have hkl' : (k : Int) < ((Q i).length : Int) := by omega
          obtain ⟨y, hy⟩ : ∃ y, (Q i)[k]? = some y := ⟨_, List.getElem?_eq_getElem hkl⟩
          obtain ⟨g, cap', hvs, _, _, hcell⟩ := row_pos (hrv i hi4) (by omega)
          rw [hpq] at hvs
          simp only [Value.slice.injEq] at hvs
          obtain ⟨rfl, _, rfl⟩ := hvs
          have m3 := hc.cellAt (hcell _ _ (recCells_at _ k y hy).2.2.2.1) id
          have hnx := namesR_next hy (allR T Q i)
          have hnl : (namesR ((Q i).take k) (allR T Q i)).length ≤ 1100 := by
            have := namesR_len ((Q i).take k) (allR T Q i)
            simp only [List.length_take] at this
            omega
          have hpt := rput_any y.key hown (by omega) (namesR_up _ (allR_up T Q i)) hc.size
          rw [← hnx] at hpt
          have HPQ : Hid (V i = .slice (some ⟨g, 0, none⟩) (Q i).length cq) := hpq
          clear hcell hnx hpq
          go_wp2_with fail
          refine hpt.mono ?_
          rintro _ w2 ⟨v2, rfl, o2, c2⟩
          clear hpt
          go_wp2_with fail
          exact ⟨⟨k + 1, m + 1, by go_num, by omega, by go_num, (show _ = _ by rw [HM.out]; omega), o2, hc.trans c2 (fun _ _ h => h), c2.cellAt hk id⟩, by simp [intOf]; omega⟩
        · have hkl' : ¬ (k : Int) < ((Q i).length : Int) := by omega
          rw [List.take_of_length_le (by omega)] at hown
          have HN' : Hid (m = T.length + waitsR Q (i + 1)) := by
            show _ = _
            have h1 := HM.out
            have h2 := HN.out
            simp only [waitsR]
            omega
          clear hpq
          go_wp2_with fail
          exact ⟨⟨i + 1, m, by go_num, by omega, rfl, HN', hown, hc, hk⟩, by simp [intOf]; omega⟩
    · have hi4' : ¬ (i : Int) < 4 := by omega
      obtain rfl : i = 4 := by omega
      have hpt := rput_any x.key hown (by omega) (allR_up T Q 4) hc.size
      obtain ⟨pl, cl, hpl⟩ := row_any hown
      rw [hpl] at hpt ⊢
      have hlb : (allR T Q 4).length ≤ 1016 := by omega
      have hlb2 := insN_len x.key (allR T Q 4)
      go_wp2_with fail
      refine hpt.mono ?_
      rintro _ w2 ⟨v2, rfl, o2, c2⟩
      clear hpt
      obtain ⟨p2, c2', rfl⟩ := row_any o2
      have HFR : Hid (fullR T Q x.key = if (allR T Q 4).length < (insN x.key (allR T Q 4)).length ∧ 4 ≤ (allR T Q 4).length then 6 else if 1000 ≤ n then 7 else 0) := by
        show _ = _
        unfold fullR
        rw [← HN.out]
      obtain ⟨A, hA⟩ : ∃ A, A = (allR T Q 4).length := ⟨_, rfl⟩
      obtain ⟨A2, hA2⟩ : ∃ A2, A2 = (insN x.key (allR T Q 4)).length := ⟨_, rfl⟩
      rw [← hA, ← hA2] at HFR
      rw [← hA] at hlb hlb2 ⊢
      rw [← hA2] at hlb2 ⊢
      clear hA hA2 o2 hown
      by_cases h1 : A < A2
      · have h1' : (A : Int) < (A2 : Int) := by omega
        by_cases h2 : 4 ≤ A
        · have h2' : (4 : Int) ≤ (A : Int) := by omega
          have HF : Hid (fullR T Q x.key = 6) := by show _ = _; rw [HFR.out, if_pos ⟨h1, h2⟩]
          clear HFR
          go_wp2_with fail
          go_ret
          exact ⟨by rw [HF.out]; rfl, hc.trans c2 (fun _ _ h => h)⟩
        · have h2' : ¬ (4 : Int) ≤ (A : Int) := by omega
          by_cases h3 : 1000 ≤ n
          · have HF : Hid (fullR T Q x.key = 7) := by show _ = _; rw [HFR.out, if_neg (fun h => h2 h.2), if_pos h3]
            clear HFR
            go_wp2_with fail
            go_ret
            exact ⟨by rw [HF.out]; rfl, hc.trans c2 (fun _ _ h => h)⟩
          · have HF : Hid (fullR T Q x.key = 0) := by show _ = _; rw [HFR.out, if_neg (fun h => h2 h.2), if_neg h3]
            clear HFR
            go_wp2_with fail
            go_ret
            exact ⟨by rw [HF.out]; rfl, hc.trans c2 (fun _ _ h => h)⟩
      · have h1' : ¬ (A : Int) < (A2 : Int) := by omega
        by_cases h3 : 1000 ≤ n
        · have HF : Hid (fullR T Q x.key = 7) := by show _ = _; rw [HFR.out, if_neg (fun h => h1 h.1), if_pos h3]
          clear HFR
          go_wp2_with fail
          go_ret
          exact ⟨by rw [HF.out]; rfl, hc.trans c2 (fun _ _ h => h)⟩
        · have HF : Hid (fullR T Q x.key = 0) := by show _ = _; rw [HFR.out, if_neg (fun h => h1 h.1), if_neg h3]
          clear HFR
          go_wp2_with fail
          go_ret
          exact ⟨by rw [HF.out]; rfl, hc.trans c2 (fun _ _ h => h)⟩
end Go.Proofs.YthedkdbgfdjlkaaGreatDoor

namespace Go.Proofs.YthedkdbgfdjlkaaGreatDoor
set_option linter.unusedVariables false
set_option linter.unusedSimpArgs false
open Go.RowKit Go.Lib
theorem run_fill {P : Program} (w : World) (t ty e : TypeId) (i : TypeInfo) (z : Value) (size bytes : Nat) (h1 : P.underlying t = some (.slice e)) (h2 : P.info? e = some i) (h3 : i.zero = some z) (h4 : i.size = size) (h5 : i.bytes = bytes) (h6 : z.cells.size = size) (h7 : 0 < size)
    (x : Value) (m : Nat) (news : List Value) (hs : SrcAt w x m news) (hn : news.length = m * size) (h1c : ∀ u ∈ news, u.oneCell' = true) (b1 : m ≤ maxLen) (b2 : m * bytes ≤ 140737488355328) :
    ∃ v' w', (Builtin.append_ #[t, t] ty #[.slice none 0 0, x]).run P w = .ok v' w' ∧ w'.ownsRow w.heap.size e size v' m news ∧ Chg (fun _ => False) w w' := by
  obtain ⟨v', w', r1, r2, r3, _⟩ := run_append_src (P := P) w w.heap.size t ty e i z size bytes h1 h2 h3 h4 h5 h6 h7 (.slice none 0 0) 0 [] (World.ownsRow_nil _ _ _ _) x m news hs hn h1c (by omega) (by rw [Nat.zero_add]; exact b2) (Nat.le_refl _)
  rw [Nat.zero_add, List.nil_append] at r2
  exact ⟨v', w', r1, r2, ⟨r3.os, r3.tape, r3.output, r3.size, fun k hk _ => r3.block k hk (by simp [Value.ownBlock])⟩⟩
theorem step_fill {P : Program} {ops : Array Oper} {o : Oper} {a : Act} {w : World} {K : Act → World → Prop} {Q : Exit → Act → World → Prop} {E : Prop}
    (hg : o.guard = none) (s x : Operand) (t : TypeId) (hop : o.op = Op.call { callee := Callee.builtin Builtin.append, args := #[s, x], argTypes := #[t, t] })
    (e : TypeId) (i : TypeInfo) (z : Value) (size bytes : Nat) (h1 : P.underlying t = some (.slice e)) (h2 : P.info? e = some i) (h3 : i.zero = some z) (h4 : i.size = size) (h5 : i.bytes = bytes) (h6 : z.cells.size = size) (h7 : 0 < size)
    (hs : a.eval s = .slice none 0 0) (y : Value) (m : Nat) (news : List Value) (hx : a.eval x = y) (hsr : SrcAt w y m news) (hn : news.length = m * size) (h1c : ∀ u ∈ news, u.oneCell' = true)
    (b1 : m ≤ maxLen) (b2 : m * bytes ≤ 140737488355328)
    (hK : ∀ v' w', w'.ownsRow w.heap.size e size v' m news → Chg (fun _ => False) w w' → K (a.put o.dst v') w') :
    if Region.wanted o (yielded ops a.tmps) = true then Oper.wp P o a w K Q else E := by
  have hw : Region.wanted o (yielded ops a.tmps) = true := by simp [Region.wanted, hg]
  rw [if_pos hw]
  obtain ⟨v', w', hrun, r1, r2⟩ := run_fill (P := P) w t o.type e i z size bytes h1 h2 h3 h4 h5 h6 h7 y m news hsr hn h1c b1 b2
  unfold Oper.wp
  simp [execOp, hop, resolve, invoke, builtin, hs, hx, hrun, Result.andThen]
  exact hK v' w' r1 r2
theorem SrcAt.all {w : World} {lo : Nat} {e : TypeId} {size n : Nat} {v : Value} {xs : List Value} (h : w.ownsRow lo e size v n xs) : SrcAt w v n xs := by
  have h0 := h
  rcases h.2 with ⟨hv, hz⟩ | ⟨g, cap, cur, hv, _⟩
  · refine .inl ⟨hv, hz, List.eq_nil_of_length_eq_zero ?_⟩
    rw [h.1, hz]; simp
  · subst hv
    exact .inr ⟨_, _, rfl, fun j u hj => by rw [add_lit', Nat.zero_add]; exact row_cell h0 hj⟩
structure Hd where
  key : ByteArray
  token : Int
def hdCells : List Hd → List Value
  | [] => []
  | h :: r => .string h.key :: .int .i64 h.token :: hdCells r
theorem hdCells_len : ∀ l : List Hd, (hdCells l).length = l.length * 2
  | [] => rfl
  | x :: r => by
    have := hdCells_len r
    simp [hdCells, this]
    omega
theorem hdCells_one : ∀ (l : List Hd) (u : Value), u ∈ hdCells l → u.oneCell' = true
  | [], u, h => by simp [hdCells] at h
  | x :: r, u, h => by
    simp only [hdCells, List.mem_cons] at h
    rcases h with rfl | rfl | h
    · rfl
    · rfl
    · exact hdCells_one r u h
theorem recCells_one : ∀ (l : List Rec) (u : Value), u ∈ recCells l → u.oneCell' = true
  | [], u, h => by simp [recCells] at h
  | x :: r, u, h => by
    simp only [recCells, Rec.cells, List.mem_append, List.mem_cons, List.not_mem_nil, or_false] at h
    rcases h with (rfl | rfl | rfl | rfl | rfl) | h
    · rfl
    · rfl
    · rfl
    · rfl
    · rfl
    · exact recCells_one r u h
structure Blk (w : World) (b n : Nat) (C : Nat → Value) : Prop where
  cell : ∀ j, j < n → w.cell? ⟨b, j, none⟩ = some (C j)
  fz : ∀ j, w.frozen? ⟨b, j, none⟩ = false
def updV (C : Nat → Value) (j : Nat) (u : Value) : Nat → Value := fun k => if k = j then u else C k
theorem updV_same (C : Nat → Value) (j : Nat) (u : Value) : updV C j u j = u := by simp [updV]
theorem updV_ne (C : Nat → Value) {j k : Nat} (u : Value) (h : k ≠ j) : updV C j u k = C k := by simp [updV, h]
theorem Blk.set {w : World} {b n : Nat} {C : Nat → Value} (h : Blk w b n C) (j : Nat) (u : Value) : Blk (w.setCell ⟨b, j, none⟩ u) b n (updV C j u) := by
  refine ⟨fun k hk => ?_, fun k => by rw [World.frozen?_setCell]; exact h.fz k⟩
  by_cases e : k = j
  · subst e
    rw [updV_same]
    exact World.cell?_setCell_same _ _ _ (h.cell k hk)
  · rw [updV_ne _ _ e, World.cell?_setCell_other _ _ _ _ (by simp [e])]
    exact h.cell k hk
theorem Blk.chg {F : Nat → Prop} {w w' : World} {b n : Nat} {C : Nat → Value} (h : Blk w b n C) (hc : Chg F w w') (hn : 0 < n) (hb : ¬ F b) : Blk w' b n C :=
  ⟨fun j hj => hc.cellAt (h.cell j hj) hb, fun j => (World.frozen?_of_block (w := w) (hc.block b (World.block_lt_of_cell? _ _ (h.cell 0 hn)) hb)).trans (h.fz j)⟩
structure RefAt (w : World) (lo b : Nat) (E B : Nat → Int) (V : Nat → Value) (vt vh : Value) (Q : Nat → List Rec) (T : List Rec) (Hs : List Hd) (c : Bool) : Prop where
  ep : ∀ i, i < 4 → w.cell? ⟨b, i * 3, none⟩ = some (.int .i64 (E i))
  ba : ∀ i, i < 4 → w.cell? ⟨b, i * 3 + 1, none⟩ = some (.int .i64 (B i))
  qu : ∀ i, i < 4 → w.cell? ⟨b, i * 3 + 2, none⟩ = some (V i)
  tk : w.cell? ⟨b, 12, none⟩ = some vt
  hd : w.cell? ⟨b, 13, none⟩ = some vh
  cl : w.cell? ⟨b, 14, none⟩ = some (.bool c)
  fz : ∀ j, w.frozen? ⟨b, j, none⟩ = false
  rows : ∀ i, i < 4 → w.ownsRow lo 53 5 (V i) (Q i).length (recCells (Q i))
  taken : w.ownsRow lo 53 5 vt T.length (recCells T)
  held : w.ownsRow lo 181 2 vh Hs.length (hdCells Hs)
  own : ∀ i, i < 4 → (V i).ownBlock ≠ some b
  ownt : vt.ownBlock ≠ some b
  ownh : vh.ownBlock ≠ some b
  sep : ∀ i j, i < 4 → j < 4 → i ≠ j → ∀ g, (V i).ownBlock = some g → (V j).ownBlock ≠ some g
  sept : ∀ i, i < 4 → ∀ g, (V i).ownBlock = some g → vt.ownBlock ≠ some g
  seph : ∀ i, i < 4 → ∀ g, (V i).ownBlock = some g → vh.ownBlock ≠ some g
  septh : ∀ g, vt.ownBlock = some g → vh.ownBlock ≠ some g
  low : lo ≤ w.heap.size
theorem Tryz.infoHd : (Tryz.prog.info? 181).map (fun i => (i.zero, i.size, i.bytes)) = some (some (.agg #[.string { data := #[] }, .int .i64 0]), 2, 24) := by kernel_rfl
def blank (c : Bool) : Nat → Value := fun j => if j < 12 then (if j % 3 = 2 then .slice none 0 0 else .int .i64 0) else if j < 14 then .slice none 0 0 else .bool c
set_option maxRecDepth 100000 in
set_option maxHeartbeats 4000000 in
theorem copy_any {w : World} {lo b : Nat} {E B : Nat → Int} {V : Nat → Value} {vt vh : Value} {Q : Nat → List Rec} {T : List Rec} {Hs : List Hd} {c : Bool} (h : RefAt w lo b E B V vt vh Q T Hs c) (hT : T.length ≤ 1000) (hH : Hs.length ≤ 1000000000) (hq : ∀ i, i < 4 → (Q i).length ≤ 4) :
    Calls Tryz.prog 57 #[.pointer (some ⟨b, 0, none⟩)] w fun e w' => ∃ V' vt' vh', e = .returned (.pointer (some ⟨w.heap.size, 0, none⟩)) ∧ RefAt w' w.heap.size w.heap.size E B V' vt' vh' Q T Hs c ∧ Chg (fun _ => False) w w' := by
  obtain ⟨i0, hi0, hz0, hz1, hz2⟩ := info_parts Tryz.infoR
  obtain ⟨i1, hi1, hy0, hy1, hy2⟩ := info_parts Tryz.infoHd
  obtain ⟨W0, hW0⟩ : ∃ W0, W0 = w.alloc (Obj.cells #[.int .i64 0, .int .i64 0, .slice none 0 0, .int .i64 0, .int .i64 0, .slice none 0 0, .int .i64 0, .int .i64 0, .slice none 0 0, .int .i64 0, .int .i64 0, .slice none 0 0, .slice none 0 0, .slice none 0 0, .bool c] 137) := ⟨_, rfl⟩
  have c0 : Chg (fun _ => False) w W0 := by rw [hW0]; exact (Chg.refl _ w).alloc _
  have hs0 : W0.heap.size = w.heap.size + 1 := by rw [hW0]; simp
  have B0 : Blk W0 w.heap.size 15 (blank c) := by
    rw [hW0]
    refine ⟨fun j hj => ?_, fun j => World.frozen?_alloc_at _ _ _ _ rfl⟩
    rcases (by omega : j = 0 ∨ j = 1 ∨ j = 2 ∨ j = 3 ∨ j = 4 ∨ j = 5 ∨ j = 6 ∨ j = 7 ∨ j = 8 ∨ j = 9 ∨ j = 10 ∨ j = 11 ∨ j = 12 ∨ j = 13 ∨ j = 14) with rfl | rfl | rfl | rfl | rfl | rfl | rfl | rfl | rfl | rfl | rfl | rfl | rfl | rfl | rfl <;> exact World.cell?_alloc_at _ _ _ _ rfl
  have hbl : b < w.heap.size := World.block_lt_of_cell? _ _ h.tk
  have hcl := h.cl
  have ht0 := c0.cellAt h.tk id
  have hd0 := c0.cellAt h.hd id
  obtain ⟨pt, ct, rfl⟩ := row_any h.taken
  obtain ⟨ph, ch, rfl⟩ := row_any h.held
  have b12 : W0.cell? ⟨w.heap.size, 12, none⟩ = some (.slice none 0 0) := B0.cell 12 (by omega)
  have f12 := B0.fz 12
  have hbn : ¬ b = w.heap.size := by omega
  have hnb : ¬ w.heap.size = b := by omega
  have HS0 : Hid (W0.heap.size = w.heap.size + 1) := hs0
  go_enter Tryz.func57, Tryz.ntmps57
  go_wp2_with fail
  rw [← hW0]
  clear hW0 hs0
  go_cut [] from 12 to 23 (fun wc => ∃ vt', Blk wc w.heap.size 15 (updV (blank c) 12 vt') ∧ wc.ownsRow (w.heap.size + 1) 53 5 vt' T.length (recCells T) ∧ Chg (fun _ => False) w wc ∧ w.heap.size + 1 ≤ wc.heap.size)
  case first =>
    have s1 : Hid (SrcAt W0.drew (.slice pt T.length ct) T.length (recCells T)) := SrcAt.all (c0.row' h.taken (fun _ _ h => h))
    have s2 : Hid ((recCells T).length = T.length * 5) := recCells_len T
    have s3 : Hid (∀ u ∈ recCells T, u.oneCell' = true) := recCells_one T
    have s4 : Hid (T.length ≤ maxLen) := by show _ ≤ maxLen; unfold maxLen; omega
    have s5 : Hid (T.length * 48 ≤ 140737488355328) := by show _ ≤ _; omega
    have s6 : Hid (∀ w1, Chg (fun _ => False) W0.drew w1 → w1.cell? ⟨w.heap.size, 12, none⟩ = some (.slice none 0 0) ∧ w1.frozen? ⟨w.heap.size, 12, none⟩ = false ∧ Hid (Blk w1 w.heap.size 15 (blank c) ∧ Chg (fun _ => False) w w1 ∧ w.heap.size + 1 ≤ w1.heap.size)) := by
      intro w1 hc
      have hc' : Chg (fun _ => False) W0 w1 := (((Quiet.refl W0).drew).chg _).trans hc (fun _ _ h => h)
      have hB := B0.chg hc' (by omega) id
      refine ⟨hB.cell 12 (by omega), hB.fz 12, hB, c0.trans hc' (fun _ _ h => h), ?_⟩
      have := hc'.size
      have := HS0.out
      omega
    go_region_law (refine step_fill rfl (.tmp 16) (.tmp 20) 131 rfl 53 i0 _ 5 48 Tryz.underlying131 hi0 hz0 hz1 hz2 rfl (by decide) (by simp [Act.eval, Act.put]) (.slice pt T.length ct) T.length (recCells T) (by simp [Act.eval, Act.put]) s1.out s2.out s3.out s4.out s5.out ?_; intro v' w1 hown hc1; obtain ⟨q', cap', rfl⟩ := row_any hown; obtain ⟨hp1, hz1', hh⟩ := s6.out w1 hc1)
    all_goals
      go_wp2_with fail
      go_meet
      case rel =>
        obtain ⟨hB, hcw, hsz⟩ := hh.out
        have hown' : w1.ownsRow (w.heap.size + 1) 53 5 (.slice q' T.length cap') T.length (recCells T) := row_lower hown (by show w.heap.size + 1 ≤ W0.heap.size; rw [HS0.out]; omega)
        refine ⟨.slice q' T.length cap', hB.set 12 _, ownsRow_setCell_other hown' (fun e => ?_) _, hcw.setCell (p := ⟨w.heap.size, 12, none⟩) (fun h => absurd h (Nat.lt_irrefl _)) _, by simpa [World.setCell] using hsz⟩
        have := (hown'.lt _ e).1
        simp only at this
        omega
  case rest =>
    obtain ⟨vt', hB1, o1, c1, z1⟩ := hcut
    clear B0 ht0 hd0 c0 b12 f12 HS0
    have b13 : wc.cell? ⟨w.heap.size, 13, none⟩ = some (.slice none 0 0) := hB1.cell 13 (by omega)
    have f13 := hB1.fz 13
    have hd1 := c1.cellAt h.hd id
    go_wp2_with fail
    go_cut [] from 24 to 35 (fun wd => ∃ vh', Blk wd w.heap.size 15 (updV (updV (blank c) 12 vt') 13 vh') ∧ wd.ownsRow (w.heap.size + 1) 53 5 vt' T.length (recCells T) ∧ wd.ownsRow (w.heap.size + 1) 181 2 vh' Hs.length (hdCells Hs) ∧ (∀ g, vt'.ownBlock = some g → vh'.ownBlock ≠ some g) ∧ Chg (fun _ => False) w wd ∧ w.heap.size + 1 ≤ wd.heap.size)
    case first =>
      have s1 : Hid (SrcAt wc.drew (.slice ph Hs.length ch) Hs.length (hdCells Hs)) := SrcAt.all (c1.row' h.held (fun _ _ h => h))
      have s2 : Hid ((hdCells Hs).length = Hs.length * 2) := hdCells_len Hs
      have s3 : Hid (∀ u ∈ hdCells Hs, u.oneCell' = true) := hdCells_one Hs
      have s4 : Hid (Hs.length ≤ maxLen) := by show _ ≤ maxLen; unfold maxLen; omega
      have s5 : Hid (Hs.length * 24 ≤ 140737488355328) := by show _ ≤ _; omega
      have s6 : Hid (∀ w1, Chg (fun _ => False) wc.drew w1 → w1.cell? ⟨w.heap.size, 13, none⟩ = some (.slice none 0 0) ∧ w1.frozen? ⟨w.heap.size, 13, none⟩ = false ∧ Hid (Blk w1 w.heap.size 15 (updV (blank c) 12 vt') ∧ w1.ownsRow (w.heap.size + 1) 53 5 vt' T.length (recCells T) ∧ Chg (fun _ => False) w w1 ∧ w.heap.size + 1 ≤ w1.heap.size)) := by
        intro w1 hc
        have hc' : Chg (fun _ => False) wc w1 := (((Quiet.refl wc).drew).chg _).trans hc (fun _ _ h => h)
        have hB := hB1.chg hc' (by omega) id
        exact ⟨hB.cell 13 (by omega), hB.fz 13, hB, hc'.row' o1 (fun _ _ h => h), c1.trans hc' (fun _ _ h => h), by have := hc'.size; omega⟩
      go_region_law (refine step_fill rfl (.tmp 28) (.tmp 32) 135 rfl 181 i1 _ 2 24 Tryz.underlying135 hi1 hy0 hy1 hy2 rfl (by decide) (by simp [Act.eval, Act.put]) (.slice ph Hs.length ch) Hs.length (hdCells Hs) (by simp [Act.eval, Act.put]) s1.out s2.out s3.out s4.out s5.out ?_; intro v' w1 hown hc1; obtain ⟨q', cap', rfl⟩ := row_any hown; obtain ⟨hp1, hz1', hh⟩ := s6.out w1 hc1)
      all_goals
        go_wp2_with fail
        go_meet
        case rel =>
          obtain ⟨hB, ot, hcw, hsz⟩ := hh.out
          have hown' : w1.ownsRow (w.heap.size + 1) 181 2 (.slice q' Hs.length cap') Hs.length (hdCells Hs) := row_lower hown z1
          refine ⟨.slice q' Hs.length cap', hB.set 13 _, ownsRow_setCell_other ot (fun e => ?_) _, ownsRow_setCell_other hown' (fun e => ?_) _, fun g hg hg' => ?_, hcw.setCell (p := ⟨w.heap.size, 13, none⟩) (fun h => absurd h (Nat.lt_irrefl _)) _, by simpa [World.setCell] using hsz⟩
          · have := (ot.lt _ e).1
            simp only at this
            omega
          · have := (hown'.lt _ e).1
            simp only at this
            omega
          · have h1 : g < wc.heap.size := (o1.lt g hg).2
            have h2 : wc.heap.size ≤ g := (hown.lt g hg').1
            omega
    case rest =>
      clear hB1 o1 c1 z1 b13 f13 hd1
      obtain ⟨vh', hB2, o2, p2, sth, c2, z2⟩ := hcut
      go_wp2_with fail
      go_loopw [4, 5] (fun si _ wr => ∃ (i : Nat) (V' C : Nat → Value), si = .int .i64 i ∧ i ≤ 4 ∧ Blk wr w.heap.size 15 C ∧ C 12 = vt' ∧ C 13 = vh' ∧ C 14 = .bool c ∧ (∀ k, k < i → C (k * 3) = .int .i64 (E k) ∧ C (k * 3 + 1) = .int .i64 (B k) ∧ C (k * 3 + 2) = V' k ∧ wr.ownsRow (w.heap.size + 1) 53 5 (V' k) (Q k).length (recCells (Q k))) ∧ (∀ k, k < i → ∀ g, (V' k).ownBlock = some g → vt'.ownBlock ≠ some g ∧ vh'.ownBlock ≠ some g ∧ ∀ j, j < i → j ≠ k → (V' j).ownBlock ≠ some g) ∧ wr.ownsRow (w.heap.size + 1) 53 5 vt' T.length (recCells T) ∧ wr.ownsRow (w.heap.size + 1) 181 2 vh' Hs.length (hdCells Hs) ∧ Chg (fun _ => False) w wr ∧ w.heap.size + 1 ≤ wr.heap.size) (fun si _ _ => 4 - (intOf si).toNat)
      case atStart => exact ⟨0, fun _ => .slice none 0 0, _, rfl, by omega, hB2, rfl, rfl, rfl, fun k hk => by omega, fun k hk => by omega, o2, p2, c2, z2⟩
      case round =>
        clear hB2 o2 p2 c2 z2
        obtain ⟨i, V', C, rfl, hi, hB, e12, e13, e14, hk, hsep, ot, oh, hc, hz⟩ := hrel
        by_cases hi4 : i < 4
        · have hi4' : (i : Int) < 4 := by omega
          have x0 := hc.cellAt (h.ep i hi4) id
          have x1 := hc.cellAt (h.ba i hi4) id
          have x2 := hc.cellAt (h.qu i hi4) id
          obtain ⟨pq, cq, hpq⟩ := row_any (h.rows i hi4)
          rw [hpq] at x2
          have hql := hq i hi4
          have HPQ : Hid (V i = .slice pq (Q i).length cq) := hpq
          have xa0 : ∀ ob, (wr.alloc ob).cell? ⟨b, i * 3, none⟩ = some (.int .i64 (E i)) := fun ob => (World.cell?_alloc_lt wr ob _ (World.block_lt_of_cell? _ _ x0)).trans x0
          have xa1 : ∀ ob, (wr.alloc ob).cell? ⟨b, i * 3 + 1, none⟩ = some (.int .i64 (B i)) := fun ob => (World.cell?_alloc_lt wr ob _ (World.block_lt_of_cell? _ _ x1)).trans x1
          clear hpq
          go_wp2_with fail
          go_region
          go_wp2_with fail
          obtain ⟨W8, hW8⟩ : ∃ W8, W8 = (wr.alloc (Obj.cells #[.int .i64 (E i), .int .i64 (B i), .slice none 0 0] 133)).drew := ⟨_, rfl⟩
          have c8 : Chg (fun _ => False) wr W8 := by rw [hW8]; exact ((Chg.refl _ wr).alloc _).drew
          have hs8 : W8.heap.size = wr.heap.size + 1 := by rw [hW8]; exact World.size_alloc _ _
          have t0 : W8.cell? ⟨wr.heap.size, 0, none⟩ = some (.int .i64 (E i)) := by rw [hW8, World.cell?_drew]; exact World.cell?_alloc_at _ _ _ _ rfl
          have t1 : W8.cell? ⟨wr.heap.size, 1, none⟩ = some (.int .i64 (B i)) := by rw [hW8, World.cell?_drew]; exact World.cell?_alloc_at _ _ _ _ rfl
          have t2 : W8.cell? ⟨wr.heap.size, 2, none⟩ = some (.slice none 0 0) := by rw [hW8, World.cell?_drew]; exact World.cell?_alloc_at _ _ _ _ rfl
          have tf : W8.frozen? ⟨wr.heap.size, 2, none⟩ = false := by rw [hW8]; exact World.frozen?_alloc_at _ _ _ _ rfl
          rw [← hW8]
          have HS8 : Hid (W8.heap.size = wr.heap.size + 1) := hs8
          have x28 := c8.cellAt x2 id
          clear hW8 hs8 xa0 xa1 x0 x1 x2
          go_cut [] from 55 to 65 (fun wd => ∃ vq, wd.cell? ⟨wr.heap.size, 0, none⟩ = some (.int .i64 (E i)) ∧ wd.cell? ⟨wr.heap.size, 1, none⟩ = some (.int .i64 (B i)) ∧ wd.cell? ⟨wr.heap.size, 2, none⟩ = some vq ∧ wd.ownsRow (wr.heap.size + 1) 53 5 vq (Q i).length (recCells (Q i)) ∧ Chg (fun _ => False) wr wd)
          case first =>
            have s1 : Hid (SrcAt W8.drew (.slice pq (Q i).length cq) (Q i).length (recCells (Q i))) := by
              have := SrcAt.all (c8.row' (hc.row' (h.rows i hi4) (fun _ _ h => h)) (fun _ _ h => h))
              rw [HPQ.out] at this
              exact this
            have s2 : Hid ((recCells (Q i)).length = (Q i).length * 5) := recCells_len _
            have s3 : Hid (∀ u ∈ recCells (Q i), u.oneCell' = true) := recCells_one _
            have s4 : Hid ((Q i).length ≤ maxLen) := by show _ ≤ maxLen; unfold maxLen; omega
            have s5 : Hid ((Q i).length * 48 ≤ 140737488355328) := by show _ ≤ _; omega
            have s6 : Hid (∀ w1, Chg (fun _ => False) W8.drew w1 → w1.cell? ⟨wr.heap.size, 2, none⟩ = some (.slice none 0 0) ∧ w1.frozen? ⟨wr.heap.size, 2, none⟩ = false ∧ Hid (w1.cell? ⟨wr.heap.size, 0, none⟩ = some (.int .i64 (E i)) ∧ w1.cell? ⟨wr.heap.size, 1, none⟩ = some (.int .i64 (B i)) ∧ Chg (fun _ => False) wr w1)) := by
              intro w1 hc1
              have hc' : Chg (fun _ => False) W8 w1 := (((Quiet.refl W8).drew).chg _).trans hc1 (fun _ _ h => h)
              exact ⟨hc'.cellAt t2 id, (World.frozen?_of_block (w := W8) (hc'.block wr.heap.size (World.block_lt_of_cell? _ _ t2) id)).trans tf, hc'.cellAt t0 id, hc'.cellAt t1 id, c8.trans hc' (fun _ _ h => h)⟩
            go_region_law (refine step_fill rfl (.tmp 56) (.tmp 63) 131 rfl 53 i0 _ 5 48 Tryz.underlying131 hi0 hz0 hz1 hz2 rfl (by decide) (by simp [Act.eval, Act.put]) (.slice pq (Q i).length cq) (Q i).length (recCells (Q i)) (by simp [Act.eval, Act.put]) s1.out s2.out s3.out s4.out s5.out ?_; intro v' w1 hown hc1; obtain ⟨q', cap', rfl⟩ := row_any hown; obtain ⟨hp1, hz1', hh⟩ := s6.out w1 hc1)
            all_goals
              go_wp2_with fail
              go_meet
              case rel =>
                obtain ⟨y0, y1, cw1⟩ := hh.out
                have hown' : w1.ownsRow (wr.heap.size + 1) 53 5 (.slice q' (Q i).length cap') (Q i).length (recCells (Q i)) := row_lower hown (by show wr.heap.size + 1 ≤ W8.heap.size; rw [HS8.out]; omega)
                refine ⟨.slice q' (Q i).length cap', (World.cell?_setCell_other _ _ _ _ (by simp)).trans y0, (World.cell?_setCell_other _ _ _ _ (by simp)).trans y1, World.cell?_setCell_same _ _ _ hp1, ownsRow_setCell_other hown' (fun e => ?_) _, cw1.setCell (p := ⟨wr.heap.size, 2, none⟩) (fun h => absurd h (Nat.lt_irrefl _)) _⟩
                have := (hown'.lt _ e).1
                simp only at this
                omega
          case rest =>
            clear t0 t1 t2 tf c8 x28 HS8
            obtain ⟨vq, y0, y1, y2, oq, cd⟩ := hcut
            obtain ⟨pv, cv, hpv⟩ := row_any oq
            have hBd := hB.chg cd (by omega) id
            have d0 := hBd.cell (i * 3) (by omega)
            have d1 := hBd.cell (i * 3 + 1) (by omega)
            have d2 := hBd.cell (i * 3 + 2) (by omega)
            have f0 := hBd.fz (i * 3)
            have f1 := hBd.fz (i * 3 + 1)
            have f2 := hBd.fz (i * 3 + 2)
            rw [hpv] at y2
            have HPV : Hid (vq = .slice pv (Q i).length cv) := hpv
            clear hpv
            go_wp2_with fail
            go_region
            go_wp2_with fail
            go_roundw
            case rel =>
              have hB3 := ((hBd.set (i * 3) (.int .i64 (E i))).set (i * 3 + 1) (.int .i64 (B i))).set (i * 3 + 2) (.slice pv (Q i).length cv)
              have cF : Chg (fun k => k = w.heap.size) wc (((wc.setCell ⟨w.heap.size, i * 3, none⟩ (.int .i64 (E i))).setCell ⟨w.heap.size, i * 3 + 1, none⟩ (.int .i64 (B i))).setCell ⟨w.heap.size, i * 3 + 2, none⟩ (.slice pv (Q i).length cv)).drew := ((((Chg.refl (fun k => k = w.heap.size) wc).setCell (p := ⟨w.heap.size, i * 3, none⟩) (fun _ => rfl) _).setCell (p := ⟨w.heap.size, i * 3 + 1, none⟩) (fun _ => rfl) _).setCell (p := ⟨w.heap.size, i * 3 + 2, none⟩) (fun _ => rfl) _).drew
              have hzd := cd.size
              have hqb : ∀ g, (Value.slice pv (Q i).length cv).ownBlock = some g → wr.heap.size + 1 ≤ g := fun g hg => (oq.lt g (by rw [HPV.out]; exact hg)).1
              have oq' : wc.ownsRow (w.heap.size + 1) 53 5 (.slice pv (Q i).length cv) (Q i).length (recCells (Q i)) := by
                have := row_lower oq (show w.heap.size + 1 ≤ wr.heap.size + 1 by omega)
                rw [HPV.out] at this
                exact this
              have low : ∀ {e : TypeId} {size n : Nat} {v : Value} {xs : List Value}, wc.ownsRow (w.heap.size + 1) e size v n xs → ∀ k, v.ownBlock = some k → ¬ k = w.heap.size := fun hr k hk e => by have := (hr.lt k hk).1; omega
              have oldb : ∀ k, k < i → ∀ g, (V' k).ownBlock = some g → g < wr.heap.size := fun k hk' g hg => ((hk k hk').2.2.2.lt g hg).2
              refine ⟨i + 1, updV V' i (.slice pv (Q i).length cv), _, by go_num, by omega, hB3.chg (((Quiet.refl _).drew).chg (fun _ => False)) (by omega) id, ?_, ?_, ?_, fun k hk' => ?_, fun k hk' g hg => ?_, cF.row' (cd.row' ot (fun _ _ h => h)) (low (cd.row' ot (fun _ _ h => h))), cF.row' (cd.row' oh (fun _ _ h => h)) (low (cd.row' oh (fun _ _ h => h))), (hc.trans cd (fun _ _ h => h)).step cF (fun k hk => by omega), ?_⟩
              · rw [updV_ne _ _ (by omega), updV_ne _ _ (by omega), updV_ne _ _ (by omega)]; exact e12
              · rw [updV_ne _ _ (by omega), updV_ne _ _ (by omega), updV_ne _ _ (by omega)]; exact e13
              · rw [updV_ne _ _ (by omega), updV_ne _ _ (by omega), updV_ne _ _ (by omega)]; exact e14
              · by_cases e : k = i
                · subst e
                  refine ⟨?_, ?_, ?_, ?_⟩
                  · rw [updV_ne _ _ (by omega), updV_ne _ _ (by omega), updV_same]
                  · rw [updV_ne _ _ (by omega), updV_same]
                  · rw [updV_same, updV_same]
                  · rw [updV_same]
                    exact cF.row' oq' (low oq')
                · obtain ⟨k1, k2, k3, k4⟩ := hk k (by omega)
                  refine ⟨?_, ?_, ?_, ?_⟩
                  · rw [updV_ne _ _ (by omega), updV_ne _ _ (by omega), updV_ne _ _ (by omega)]; exact k1
                  · rw [updV_ne _ _ (by omega), updV_ne _ _ (by omega), updV_ne _ _ (by omega)]; exact k2
                  · rw [updV_ne _ _ (by omega), updV_ne _ _ (by omega), updV_ne _ _ (by omega), updV_ne _ _ e]; exact k3
                  · rw [updV_ne _ _ e]
                    exact cF.row' (cd.row' k4 (fun _ _ h => h)) (low (cd.row' k4 (fun _ _ h => h)))
              · by_cases e : k = i
                · subst e
                  rw [updV_same] at hg
                  have hg1 := hqb g hg
                  refine ⟨fun h1 => ?_, fun h1 => ?_, fun j hj hne h1 => ?_⟩
                  · have := (ot.lt g h1).2; omega
                  · have := (oh.lt g h1).2; omega
                  · rw [updV_ne _ _ hne] at h1
                    have := oldb j (by omega) g h1
                    omega
                · rw [updV_ne _ _ e] at hg
                  obtain ⟨q1, q2, q3⟩ := hsep k (by omega) g hg
                  refine ⟨q1, q2, fun j hj hne h1 => ?_⟩
                  by_cases ej : j = i
                  · rw [ej, updV_same] at h1
                    have := hqb g h1
                    have := oldb k (by omega) g hg
                    omega
                  · rw [updV_ne _ _ ej] at h1
                    exact q3 j (by omega) hne h1
              · have := cF.size
                omega
            case measure => simp [intOf]; omega
        · have hi4' : ¬ (i : Int) < 4 := by omega
          obtain rfl : i = 4 := by omega
          go_wp2_with fail
          go_ret
          refine ⟨rfl, ⟨V', vt', vh', ⟨fun k hk4 => ?_, fun k hk4 => ?_, fun k hk4 => ?_, ?_, ?_, ?_, hB.fz, fun k hk4 => row_lower (hk k hk4).2.2.2 (by omega), row_lower ot (by omega), row_lower oh (by omega), fun k hk4 e => ?_, fun e => ?_, fun e => ?_, fun a d ha hd hne g hg => (hsep a ha g hg).2.2 d hd (fun e => hne e.symm), fun k hk4 g hg => (hsep k hk4 g hg).1, fun k hk4 g hg => (hsep k hk4 g hg).2.1, sth, by omega⟩⟩, hc⟩
          · rw [hB.cell _ (by omega), (hk k hk4).1]
          · rw [hB.cell _ (by omega), (hk k hk4).2.1]
          · rw [hB.cell _ (by omega), (hk k hk4).2.2.1]
          · rw [hB.cell _ (by omega), e12]
          · rw [hB.cell _ (by omega), e13]
          · rw [hB.cell _ (by omega), e14]
          · have := ((hk k hk4).2.2.2.lt _ e).1; omega
          · have := (ot.lt _ e).1; omega
          · have := (oh.lt _ e).1; omega
end Go.Proofs.YthedkdbgfdjlkaaGreatDoor

namespace Go.Proofs.YthedkdbgfdjlkaaGreatDoor
set_option linter.unusedVariables false
set_option linter.unusedSimpArgs false
open Go.RowKit Go.Lib
set_option maxHeartbeats 400000 in
theorem lpick_any (c n : Int) (w : World) (hc : inInt c) (hn : 0 < n) (hn2 : n ≤ 9223372036854775807) :
    Calls Tryz.prog 26 #[.int .i64 c, .int .i64 n] w fun e w' => e = .returned (.int .i64 (pickI c n)) ∧ w' = w := by
  obtain ⟨h1, h2⟩ := hc
  by_cases hneg : c < 0
  · go_enter Tryz.func26, Tryz.ntmps26
    go_wp2
    go_ret
    refine ⟨?_, rfl⟩
    have e : -((c + 1).tmod n) = (-(c + 1)) % n := by rw [← Int.neg_tmod]; exact Int.tmod_eq_emod_of_nonneg (by omega)
    simp [pickI, hneg, e]
  · go_enter Tryz.func26, Tryz.ntmps26
    go_wp2
    go_ret
    exact ⟨by simp [pickI, show ¬ c < 0 by omega], rfl⟩
set_option maxHeartbeats 400000 in
theorem num_any (e : Int) (w : World) : Calls Tryz.prog 47 #[.int .i64 e] w fun r w' => r = .returned (.int .i64 e) ∧ w' = w := by
  go_enter Tryz.func47, Tryz.ntmps47
  go_wp2
  go_ret
  exact ⟨rfl, rfl⟩
def Mk (w : World) (sz off : Nat) (x : Int) (v : Value) : Prop := (∃ c, v = .slice none 0 c) ∨ ∃ g n cap, v = .slice (some ⟨g, 0, none⟩) n cap ∧ ∀ j, j < n → w.cell? ⟨g, j * sz + off, none⟩ = some (.int .i64 x)
def Ink (sz off : Nat) (x : Int) (g : Nat) (w w' : World) : Prop := ∀ j u, w.cell? ⟨g, j * sz + off, none⟩ = some u → w'.cell? ⟨g, j * sz + off, none⟩ = some u ∨ w'.cell? ⟨g, j * sz + off, none⟩ = some (.int .i64 x)
theorem Mk.ink {w w' : World} {sz off : Nat} {x : Int} {v : Value} (h : Mk w sz off x v) (hi : ∀ g, v.ownBlock = some g → Ink sz off x g w w') : Mk w' sz off x v := by
  rcases h with h | ⟨g, n, cap, rfl, hc⟩
  · exact .inl h
  · refine .inr ⟨g, n, cap, rfl, fun j hj => ?_⟩
    rcases hi g rfl j _ (hc j hj) with e | e <;> exact e
theorem Mk.chg {F : Nat → Prop} {w w' : World} {sz off : Nat} {x : Int} {v : Value} (h : Mk w sz off x v) (hc : Chg F w w') (hF : ∀ g, v.ownBlock = some g → ¬ F g) : Mk w' sz off x v := h.ink (fun g hg j u hu => .inl (hc.cellAt hu (hF g hg)))
theorem row_cut' {w : World} {lo : Nat} {e : TypeId} {size n m cap : Nat} {p : Option Addr} {xs : List Value} (h : w.ownsRow lo e size (.slice p n cap) n xs) (hm : m ≤ n) : w.ownsRow lo e size (.slice p m cap) m (xs.take (m * size)) := by
  refine ⟨?_, ?_⟩
  · rw [List.length_take, h.1]
    exact Nat.min_eq_left (Nat.mul_le_mul_right _ hm)
  · rcases h.2 with ⟨hv, hz⟩ | ⟨g, cap', cur, hv, hbg, hg, hcap, hmax, hcur, htake⟩
    · simp only [Value.slice.injEq] at hv
      obtain ⟨rfl, _, rfl⟩ := hv
      have : m = 0 := by omega
      subst this
      exact .inl ⟨rfl, rfl⟩
    · simp only [Value.slice.injEq] at hv
      obtain ⟨rfl, _, rfl⟩ := hv
      refine .inr ⟨g, cap, cur, rfl, hbg, hg, by omega, hmax, hcur, ?_⟩
      rw [← htake, List.take_take]
      congr 1
      exact (Nat.min_eq_left (Nat.mul_le_mul_right _ hm)).symm
theorem run_mark {P : Program} (w : World) (base : Nat) (t ty e : TypeId) (i : TypeInfo) (z : Value) (size bytes : Nat) (h1 : P.underlying t = some (.slice e)) (h2 : P.info? e = some i) (h3 : i.zero = some z) (h4 : i.size = size) (h5 : i.bytes = bytes) (h6 : z.cells.size = size) (h7 : 0 < size)
    (v : Value) (n : Nat) (xs : List Value) (hown : w.ownsRow base e size v n xs)
    (ad : Addr) (m c : Nat) (news : List Value) (hn : news.length = m * size) (hc : ∀ j u, news[j]? = some u → w.cell? (ad.add j) = some u) (h1c : ∀ u ∈ news, u.oneCell' = true)
    (b1 : n + m ≤ maxLen) (b2 : (n + m) * bytes ≤ 140737488355328) (hb : base ≤ w.heap.size)
    (off : Nat) (ho : off < size) (x : Int) (hx : ∀ j, j < n → xs[j * size + off]? = some (.int .i64 x)) (hm : ∀ j, j < m → news[j * size + off]? = some (.int .i64 x)) :
    ∃ v' w', (Builtin.append_ #[t, t] ty #[v, .slice (some ad) m c]).run P w = .ok v' w' ∧ w'.ownsRow base e size v n xs ∧ Mk w' size off x v' ∧ Chg (fun k => v.ownBlock = some k) w w' ∧ (∀ g, v.ownBlock = some g → Ink size off x g w w') ∧
      (v'.ownBlock = v.ownBlock ∨ ∀ k, v'.ownBlock = some k → w.heap.size ≤ k) ∧ ∃ p k, v' = .slice p (n + m) k := by
  obtain ⟨v', w', hrun, r1, r2, r3⟩ := run_append_where (P := P) w base t ty e i z size bytes h1 h2 h3 h4 h5 h6 h7 v n xs hown ad m c news hn hc h1c b1 b2 hb
  have hxs := hown.1
  have hmk : Mk w' size off x v' := by
    rcases r1.2 with ⟨hv, _⟩ | ⟨g, cap, cur, hv, _⟩
    · exact .inl ⟨0, hv⟩
    · refine .inr ⟨g, n + m, cap, hv, fun j hj => ?_⟩
      subst hv
      refine row_cell r1 ?_
      by_cases hjn : j < n
      · have : j * size + off < xs.length := by
          rw [hxs]
          have : (j + 1) * size ≤ n * size := Nat.mul_le_mul_right _ hjn
          rw [Nat.add_mul] at this
          omega
        rw [List.getElem?_append_left this]
        exact hx j hjn
      · obtain ⟨d, rfl⟩ : ∃ d, j = n + d := ⟨j - n, by omega⟩
        have e1 : (n + d) * size + off = xs.length + (d * size + off) := by rw [hxs, Nat.add_mul]; omega
        rw [e1, List.getElem?_append_right (by omega), Nat.add_sub_cancel_left]
        exact hm d (by omega)
  refine ⟨v', w', hrun, ?_, hmk, ⟨r2.os, r2.tape, r2.output, r2.size, fun k hk hne => r2.block k hk (fun e => hne e.symm)⟩, ?_, r3, row_any r1⟩
  · rcases hown.2 with ⟨rfl, rfl⟩ | ⟨g, cap, cur, rfl, hbg, hg, hcap, hmax, hcur, htake⟩
    · obtain rfl : xs = [] := List.eq_nil_of_length_eq_zero (by simpa using hown.1)
      exact World.ownsRow_nil _ _ _ _
    · have hcells : ∀ j u, xs[j]? = some u → w.cell? ((⟨g, 0, none⟩ : Addr).add j) = some u := World.ownsRow.cells hown (g := g) rfl
      by_cases hroom : n + m ≤ cap
      · subst h4
        have hsp : ∀ j, j < news.length → (w.cell? ⟨g, 0 + n * i.size + j, none⟩).isSome = true ∧ w.frozen? ⟨g, 0 + n * i.size + j, none⟩ = false := by
          intro j hj
          have hlt : 0 + n * i.size + j < cur.size := by
            rw [hcur]
            have : (n + m) * i.size ≤ cap * i.size := Nat.mul_le_mul_right _ hroom
            rw [Nat.add_mul] at this
            omega
          constructor
          · simp [World.cell?, hg]; omega
          · simp [World.frozen?, hg]
        have hrun2 := run_append_room_cells (P := P) w t ty e i h1 h2 g 0 n cap ad m c news hn hc h1c hroom (fun j hj => (hsp j hj).1) (fun j hj => (hsp j hj).2)
        rw [hrun2] at hrun
        injection hrun with e1 e2
        subst e1
        have := row_cut' r1 (m := n) (by omega)
        rw [List.take_left' (by rw [hxs])] at this
        exact this
      · obtain ⟨v2, w2, hrun2, q1, q2⟩ := run_append_arg_grows (P := P) w t ty e i z size bytes h1 h2 h3 h4 h5 h6 h7 ⟨g, 0, none⟩ n cap xs hown.1 hcells ad m c news hn hc (by omega) b1 b2
        rw [hrun2] at hrun
        injection hrun with e1 e2
        subst e1 e2
        have cc : Chg (fun _ => False) w w2 := ⟨q2.os, q2.tape, q2.output, q2.size, fun k hk _ => q2.block k hk (by simp)⟩
        exact cc.row' hown (fun _ _ h => h)
  · intro g0 hg0 j u hu
    rcases hown.2 with ⟨rfl, rfl⟩ | ⟨g, cap, cur, rfl, hbg, hg, hcap, hmax, hcur, htake⟩
    · simp [Value.ownBlock] at hg0
    · simp only [Value.ownBlock, Option.map_some, Option.some.injEq] at hg0
      subst hg0
      have hcells : ∀ j u, xs[j]? = some u → w.cell? ((⟨g, 0, none⟩ : Addr).add j) = some u := World.ownsRow.cells hown (g := g) rfl
      by_cases hroom : n + m ≤ cap
      · subst h4
        have hsp : ∀ j, j < news.length → (w.cell? ⟨g, 0 + n * i.size + j, none⟩).isSome = true ∧ w.frozen? ⟨g, 0 + n * i.size + j, none⟩ = false := by
          intro j hj
          have hlt : 0 + n * i.size + j < cur.size := by
            rw [hcur]
            have : (n + m) * i.size ≤ cap * i.size := Nat.mul_le_mul_right _ hroom
            rw [Nat.add_mul] at this
            omega
          constructor
          · simp [World.cell?, hg]; omega
          · simp [World.frozen?, hg]
        have hrun2 := run_append_room_cells (P := P) w t ty e i h1 h2 g 0 n cap ad m c news hn hc h1c hroom (fun j hj => (hsp j hj).1) (fun j hj => (hsp j hj).2)
        rw [hrun2] at hrun
        injection hrun with e1 e2
        subst e2
        by_cases hin : n ≤ j ∧ j < n + m
        · right
          obtain ⟨d, rfl⟩ : ∃ d, j = n + d := ⟨j - n, by omega⟩
          have hd := hm d (by omega)
          obtain ⟨hdl, ed⟩ := List.getElem?_eq_some_iff.1 hd
          have := World.cell?_setCells_in g news (0 + n * i.size) w (fun j hj => (hsp j hj).1) (d * i.size + off) hdl
          rw [ed] at this
          rw [show (n + d) * i.size + off = 0 + n * i.size + (d * i.size + off) by rw [Nat.add_mul]; omega]
          exact this
        · left
          rw [World.cell?_setCells_out g news (0 + n * i.size) w _ (fun _ _ => ?_)]
          · exact hu
          · simp only
            rw [hn]
            by_cases hj : j < n
            · left
              have : (j + 1) * i.size ≤ n * i.size := Nat.mul_le_mul_right _ hj
              rw [Nat.add_mul] at this
              omega
            · right
              have : (n + m) * i.size ≤ j * i.size := Nat.mul_le_mul_right _ (by omega)
              rw [Nat.add_mul] at this
              omega
      · obtain ⟨v2, w2, hrun2, q1, q2⟩ := run_append_arg_grows (P := P) w t ty e i z size bytes h1 h2 h3 h4 h5 h6 h7 ⟨g, 0, none⟩ n cap xs hown.1 hcells ad m c news hn hc (by omega) b1 b2
        rw [hrun2] at hrun
        injection hrun with e1 e2
        subst e1 e2
        have cc : Chg (fun _ => False) w w2 := ⟨q2.os, q2.tape, q2.output, q2.size, fun k hk _ => q2.block k hk (by simp)⟩
        exact .inl (cc.cellAt hu id)
end Go.Proofs.YthedkdbgfdjlkaaGreatDoor
