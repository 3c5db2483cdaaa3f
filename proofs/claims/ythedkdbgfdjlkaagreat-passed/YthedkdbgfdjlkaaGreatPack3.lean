import Derived.Test.YthedkdbgfdjlkaaGreatPack1
import Derived.Test.YthedkdbgfdjlkaaGreatPack2
/- Bounded, WALKED: what it takes beside, and what it counts. -/
namespace Go.Proofs.YthedkdbgfdjlkaaGreat
set_option linter.unusedVariables false
set_option linter.unusedSimpArgs false
open Go.RowKit

variable {R : Nat → World → Addr → Option St → (Nat → Prop) → Prop}

/-- What a step may add. -/
def gain (d : Bool) (kind : Int) : Int := if d = true ∧ kind = 0 then 1 else 0

theorem gain_pos (d : Bool) (kind : Int) : 0 ≤ gain d kind ∧ gain d kind ≤ 1 := by
  unfold gain; split <;> omega

/-- What a step makes of a state: was it done? -/
structure StepOK (s : St) (kind : Int) (d : Bool) (t : St) : Prop where
  same : d = false ∨ 1 < kind → t = s
  more : t.records ≤ s.records + gain d kind

set_option maxHeartbeats 1000000 in
theorem does_any (H : ApiN R) (HB : ApiB R) {n0 : Nat} {w : World} {a : Addr} {s : St} {F : Nat → Prop} (p : Stp) (hR : R n0 w a (some s) F) (hn0 : n0 ≤ roomy) (hn1 : 512 ≤ n0) (hx : p.x.fits) (hm : inInt p.kind ∧ inInt p.n ∧ p.key.size ≤ maxLen) :
    Calls Tryz.prog 14 #[.pointer (some a), p.value'] w fun e w' => ∃ F' d t, e = .returned (.bool d) ∧ R (n0 + 32) w' a (some t) F' ∧ (∀ k, F' k → F k ∨ w.heap.size ≤ k) ∧ Chg F w w' ∧ StepOK s p.kind d t := by
  by_cases h0 : p.kind = 0
  · refine (does_accept H p h0 hR hn0 hx).mono ?_
    rintro e w' ⟨F', rfl, h1, h2, h3⟩
    refine ⟨F', _, _, rfl, h1, h2, h3, fun h => ?_, ?_⟩
    · rcases h with h | h
      · refine accept_err fun e => ?_
        simp only [accept?] at h
        rw [e] at h
        cases h
      · omega
    · have := accept_records s p.x
      by_cases e : (accept s p.x).1.2 = 0
      · have hg : gain ((accept? (some s) p.x).1.2 == 0) p.kind = 1 := by
          unfold gain; rw [if_pos]; exact ⟨by simp only [accept?]; simpa using e, h0⟩
        rw [hg]
        exact this
      · have hg := (gain_pos ((accept s p.x).1.2 == 0) p.kind).1
        have e2 : (accept s p.x).2 = s := accept_err e
        simp only [accept?]
        rw [e2]
        omega
  · obtain ⟨kind, ⟨se, ep, n, k, v⟩, key, m⟩ := p
    simp only at h0 hx hm
    simp only [Stp.value']
    have c0 : Chg F w (w.alloc (.cells #[.int .i64 kind, .int .i64 se, .int .i64 ep, .int .i64 n, .string k, .int .i64 v, .string key, .int .i64 m] 44)) := (Chg.refl F w).alloc _
    have hz : w.heap.size ≤ (w.alloc (.cells #[.int .i64 kind, .int .i64 se, .int .i64 ep, .int .i64 n, .string k, .int .i64 v, .string key, .int .i64 m] 44)).heap.size := c0.size
    have h0' : (kind == 0) = false := by simpa using h0
    by_cases h1 : kind = 1
    · have h1' : (kind == 1) = true := by simpa using h1
      have han := HB.answer key m (H.alloc hR (.cells #[.int .i64 kind, .int .i64 se, .int .i64 ep, .int .i64 n, .string k, .int .i64 v, .string key, .int .i64 m] 44)) hn0 hm.2.2 hm.2.1
      have H1 : Hid (kind = 1) := h1
      clear h1 h0
      go_enter Tryz.func14, Tryz.ntmps14
      go_wp2_with fail
      refine han.mono ?_
      rintro _ w1 ⟨F', er, t, rfl, hR1, hb, hs, hF1, hc1⟩
      clear han
      go_wp2
      go_ret
      refine ⟨F', _, t, rfl, hR1, fun k hk => (hF1 k hk).imp id (fun h => by omega), c0.trans hc1 (fun _ _ h => h), fun h => ?_, by rw [hb.records]; have := (gain_pos (er == 0) kind).1; omega⟩
      rcases h with h | h
      · exact hs (by simpa using h)
      · have := H1.out; omega
    · have h1' : (kind == 1) = false := by simpa using h1
      by_cases h2 : kind = 2
      · have h2' : (kind == 2) = true := by simpa using h2
        have hsh := HB.shrink (H.alloc hR (.cells #[.int .i64 kind, .int .i64 se, .int .i64 ep, .int .i64 n, .string k, .int .i64 v, .string key, .int .i64 m] 44))
        clear h2 h1 h0
        go_enter Tryz.func14, Tryz.ntmps14
        go_wp2_with fail
        refine hsh.mono ?_
        rintro _ w1 ⟨F', er, rfl, hR1, hF1, hc1⟩
        clear hsh
        go_wp2
        go_ret
        exact ⟨F', _, s, rfl, H.mono hR1 (by omega), fun k hk => (hF1 k hk).imp id (fun h => by omega), c0.trans hc1 (fun _ _ h => h), fun _ => rfl, by have := fun d => (gain_pos d kind).1; first | (have := this true; omega) | (have := this false; omega) | exact Int.le_add_of_nonneg_right (this _)⟩
      · have h2' : (kind == 2) = false := by simpa using h2
        clear h2 h1 h0
        go_enter Tryz.func14, Tryz.ntmps14
        go_wp2
        go_ret
        exact ⟨F, _, s, rfl, H.mono (H.alloc hR _) (by omega), fun k hk => .inl hk, c0, fun _ => rfl, by have := fun d => (gain_pos d kind).1; first | (have := this true; omega) | (have := this false; omega) | exact Int.le_add_of_nonneg_right (this _)⟩

end Go.Proofs.YthedkdbgfdjlkaaGreat

/- Once, THE PURE PART: what the document's relay makes of records that producers number by sessions. -/
namespace Go.Proofs.YthedkdbgfdjlkaaGreat
set_option linter.unusedVariables false
set_option linter.unusedSimpArgs false
open Go.RowKit

def Rec.wt (x : Rec) : Wt := ⟨x.number, x.key, x.value⟩

/-- The ledger behind these records, one after another. -/
def keysOf (l : List Rec) (ks : List Ky) : List Ky := l.foldl (fun ks x => takeKy x.key x.value ks) ks

/-- Those of one session. -/
def ofS (all : List Rec) (i : Nat) : List Rec := all.filter (fun x => x.session == (i : Int))

def kC : ByteArray := { data := #[99] }
def kS : ByteArray := { data := #[115] }
def kL : ByteArray := { data := #[108, 97, 115, 116] }
def kM : ByteArray := { data := #[109, 97, 120] }
def names4 : List ByteArray := [kC, kS, kL, kM]

/-- Records as producers send them. -/
structure Numbered (all : List Rec) : Prop where
  few : all.length ≤ 900
  each : ∀ x ∈ all, 0 ≤ x.session ∧ x.session < 4 ∧ x.epoch = 0 ∧ x.key ∈ names4 ∧ 0 ≤ x.value ∧ x.value ≤ 4294967295
  num : ∀ (i n : Nat) (x : Rec), (ofS all i)[n]? = some x → x.number = n

structure LnInv (A : List Rec) (l : Ln) : Prop where
  ep : l.epoch = 0
  lo : 0 ≤ l.base
  hi : l.base ≤ A.length
  up : l.ws.Pairwise fun a b => a.num < b.num
  win : ∀ y ∈ l.ws, l.base < y.num ∧ y.num < l.base + 4
  wt : ∀ y ∈ l.ws, ∃ x, A[y.num.toNat]? = some x ∧ y = x.wt

def bases : List Ln → Int
  | [] => 0
  | l :: r => l.base + bases r

structure OInv (all ol : List Rec) (s : St) : Prop where
  four : s.lanes.length = 4
  keys : s.keys = keysOf ol []
  lane : ∀ (i : Nat) (l : Ln), s.lanes[i]? = some l → LnInv (ofS all i) l
  sum : (ol.length : Int) = bases s.lanes
  sub : ∀ x ∈ ol, x ∈ all

theorem keysOf_append (a b : List Rec) (ks : List Ky) : keysOf (a ++ b) ks = keysOf b (keysOf a ks) := List.foldl_append

theorem counts_keysOf : ∀ (l : List Rec) (ks : List Ky), counts (keysOf l ks) = counts ks + l.length
  | [], ks => by simp [keysOf]
  | x :: r, ks => by
    have := counts_keysOf r (takeKy x.key x.value ks)
    rw [counts_takeKy] at this
    simp only [keysOf, List.foldl_cons] at this ⊢
    rw [this]
    simp
    omega

theorem bases_set : ∀ (ls : List Ln) (i : Nat) (l l' : Ln), ls[i]? = some l → bases (ls.set i l') = bases ls - l.base + l'.base
  | [], i, l, l', h => by simp at h
  | x :: r, 0, l, l', h => by
    simp at h; subst h
    simp [bases]; omega
  | x :: r, i + 1, l, l', h => by
    have := bases_set r i l l' (by simpa using h)
    simp [bases, this]; omega

theorem up_len : ∀ (ws : List Wt) (a b : Int), (ws.Pairwise fun a b => a.num < b.num) → (∀ y ∈ ws, a ≤ y.num ∧ y.num < b) → ws = [] ∨ (ws.length : Int) ≤ b - a
  | [], a, b, _, _ => .inl rfl
  | x :: r, a, b, hu, hm => by
    right
    obtain ⟨h1, h2⟩ := List.pairwise_cons.1 hu
    have hx := hm x (by simp)
    rcases up_len r (x.num + 1) b h2 (fun y hy => ⟨h1 y hy, (hm y (by simp [hy])).2⟩) with h | h
    · subst h; simp; omega
    · simp; omega

theorem LnInv.room {A : List Rec} {l : Ln} (h : LnInv A l) : l.base + l.ws.length ≤ A.length := by
  rcases up_len l.ws (l.base + 1) A.length h.up (fun y hy => ⟨(h.win y hy).1, by
    obtain ⟨x, hx, _⟩ := h.wt y hy
    have := (List.getElem?_eq_some_iff.1 hx).1
    have := (h.win y hy).1
    have := h.lo
    omega⟩) with e | e
  · have := h.hi
    rw [e]; simpa using this
  · omega

theorem ofS_total : ∀ (all : List Rec), (∀ x ∈ all, 0 ≤ x.session ∧ x.session < 4) → (ofS all 0).length + (ofS all 1).length + (ofS all 2).length + (ofS all 3).length = all.length
  | [], _ => rfl
  | x :: r, h => by
    have ih := ofS_total r (fun y hy => h y (by simp [hy]))
    have hx := h x (by simp)
    unfold ofS at ih ⊢
    rcases (by omega : x.session = 0 ∨ x.session = 1 ∨ x.session = 2 ∨ x.session = 3) with e | e | e | e <;> simp [List.filter_cons, e] at ih ⊢ <;> omega

theorem OInv.total {all ol : List Rec} {s : St} (h : OInv all ol s) (hn : Numbered all) : s.records ≤ all.length := by
  have ht := ofS_total all (fun x hx => ⟨(hn.each x hx).1, (hn.each x hx).2.1⟩)
  have hk : counts s.keys = bases s.lanes := by rw [h.keys, counts_keysOf, ← h.sum]; simp [counts]
  unfold St.records
  rw [hk]
  have h4 := h.four
  have hl := h.lane
  match hs : s.lanes, h4 with
  | [l0, l1, l2, l3], _ =>
    rw [hs] at hl
    have r0 := (hl 0 l0 rfl).room
    have r1 := (hl 1 l1 rfl).room
    have r2 := (hl 2 l2 rfl).room
    have r3 := (hl 3 l3 rfl).room
    simp only [bases, waits]
    omega

/-- What is taken, one behind another. -/
theorem drain_once (A : List Rec) : ∀ (ws : List Wt) (b : Int) (ks : List Ky), 0 ≤ b → (ws.Pairwise fun a b => a.num < b.num) → (∀ y ∈ ws, b ≤ y.num ∧ ∃ x, A[y.num.toNat]? = some x ∧ y = x.wt) →
    ∃ n : Nat, drainW b ws ks = (b + n, ws.drop n, keysOf ((A.drop b.toNat).take n) ks) ∧ n ≤ ws.length ∧ (n = 0 ∨ b + n ≤ A.length) ∧ (∀ y ∈ ws.drop n, b + n < y.num) ∧ (∀ y, ws.head? = some y → y.num = b → 0 < n)
  | [], b, ks, _, _, _ => ⟨0, by simp [drainW, keysOf], by simp, .inl rfl, by simp, by simp⟩
  | x :: r, b, ks, hb, hu, hm => by
    obtain ⟨h1, h2⟩ := List.pairwise_cons.1 hu
    obtain ⟨hx1, x0, hx2, hx3⟩ := hm x (by simp)
    by_cases e : x.num = b
    · obtain ⟨n, g1, g2, g3, g4, _⟩ := drain_once A r (b + 1) (takeKy x.key x.val ks) (by omega) h2 (fun y hy => ⟨by have := h1 y hy; omega, (hm y (by simp [hy])).2⟩)
      have hlen := (List.getElem?_eq_some_iff.1 hx2).1
      rw [e] at hx2 hlen
      have hd : A.drop b.toNat = x0 :: A.drop (b.toNat + 1) := by
        rw [List.drop_eq_getElem_cons hlen, (List.getElem?_eq_some_iff.1 hx2).2]
      refine ⟨n + 1, ?_, by simp; omega, .inr (by rcases g3 with g3 | g3 <;> omega), fun y hy => ?_, fun _ _ _ => by omega⟩
      · simp only [drainW, if_pos e]
        rw [g1, hd]
        have e1 : (b + 1).toNat = b.toNat + 1 := by omega
        have e2 : b + 1 + (n : Int) = b + ((n + 1 : Nat) : Int) := by omega
        rw [e1, e2]
        simp only [List.take_succ_cons, List.drop_succ_cons, keysOf, List.foldl_cons]
        rw [hx3]
        rfl
      · have := g4 y (by simpa using hy)
        omega
    · refine ⟨0, by simp [drainW, if_neg e, keysOf], by simp, .inl rfl, fun y hy => ?_, fun y hy he => ?_⟩
      · simp at hy
        rcases hy with rfl | hy
        · omega
        · have := h1 y hy; omega
      · simp at hy; subst hy; exact absurd he e

theorem mem_putW (x : Wt) : ∀ (l : List Wt) (y : Wt), y ∈ putW x l ↔ y = x ∨ y ∈ l
  | [], y => by simp [putW]
  | z :: r, y => by
    unfold putW
    split
    · simp
    · simp only [List.mem_cons, mem_putW x r y]
      constructor
      · rintro (h | h | h) <;> simp [h]
      · rintro (h | h | h) <;> simp [h]

theorem putW_up (x : Wt) : ∀ {l : List Wt}, (l.Pairwise fun a b => a.num < b.num) → (∀ y ∈ l, y.num ≠ x.num) → (putW x l).Pairwise fun a b => a.num < b.num
  | [], _, _ => by simp [putW]
  | z :: r, hu, hn => by
    obtain ⟨h1, h2⟩ := List.pairwise_cons.1 hu
    unfold putW
    split
    · rename_i h
      refine List.pairwise_cons.2 ⟨fun y hy => ?_, hu⟩
      rcases List.mem_cons.1 hy with rfl | hy
      · exact h
      · have := h1 y hy; omega
    · rename_i h
      refine List.pairwise_cons.2 ⟨fun y hy => ?_, putW_up x h2 (fun y hy => hn y (by simp [hy]))⟩
      rcases (mem_putW x r y).1 hy with rfl | hy
      · have := hn z (by simp); omega
      · exact h1 y hy

theorem putW_head (x : Wt) : ∀ {l : List Wt}, (∀ y ∈ l, x.num < y.num) → (putW x l).head? = some x
  | [], _ => rfl
  | z :: r, h => by
    have := h z (by simp)
    simp [putW, this]

theorem isIn_mem (k : ByteArray) (r : List ByteArray) : isIn k r = true ↔ k ∈ r := by
  unfold isIn
  rw [List.any_eq_true]
  constructor
  · rintro ⟨y, hy, e⟩
    have e : y = k := by simpa using e
    rw [← e]; exact hy
  · intro h
    exact ⟨k, h, by simp⟩

theorem distinct_le (m : List ByteArray) : ∀ (l : List ByteArray), (∀ k ∈ l, k ∈ m) → distinct l ≤ m.length := by
  intro l
  suffices h : ∀ l : List ByteArray, ∃ N : List ByteArray, N.Nodup ∧ (∀ x ∈ N, x ∈ l) ∧ N.length = distinct l by
    intro hl
    obtain ⟨N, h1, h2, h3⟩ := h l
    rw [← h3]
    exact h1.length_le_of_subset (fun x hx => hl x (h2 x hx))
  intro l
  induction l with
  | nil => exact ⟨[], List.nodup_nil, by simp, rfl⟩
  | cons k r ih =>
    obtain ⟨N, h1, h2, h3⟩ := ih
    unfold distinct
    split
    · exact ⟨N, h1, fun x hx => by simp [h2 x hx], h3⟩
    · rename_i hk
      refine ⟨k :: N, List.nodup_cons.2 ⟨fun h => hk ((isIn_mem k r).2 (h2 k h)), h1⟩, fun x hx => ?_, by simp [h3]⟩
      rcases List.mem_cons.1 hx with rfl | hx
      · simp
      · simp [h2 x hx]

theorem keysOf_names : ∀ (l : List Rec) (ks : List Ky) (k : Ky), k ∈ keysOf l ks → (∃ y ∈ ks, y.name = k.name) ∨ ∃ x ∈ l, x.key = k.name
  | [], ks, k, h => .inl ⟨k, h, rfl⟩
  | x :: r, ks, k, h => by
    rcases keysOf_names r (takeKy x.key x.value ks) k h with ⟨y, hy, e⟩ | ⟨y, hy, e⟩
    · rcases takeKy_name_mem _ _ _ _ hy with h | ⟨z, hz, e2⟩
      · exact .inr ⟨x, by simp, by rw [← e, h]⟩
      · exact .inl ⟨z, hz, by rw [e2, e]⟩
    · exact .inr ⟨y, by simp [hy], e⟩

theorem OInv.names {all ol : List Rec} {s : St} (h : OInv all ol s) (hn : Numbered all) : ∀ k ∈ s.names, k ∈ names4 := by
  intro k hk
  unfold St.names at hk
  rcases List.mem_append.1 hk with hk | hk
  · obtain ⟨y, hy, e⟩ := List.mem_map.1 hk
    rw [h.keys] at hy
    rcases keysOf_names _ _ _ hy with ⟨z, hz, _⟩ | ⟨x, hx, e2⟩
    · simp at hz
    · rw [← e, ← e2]; exact (hn.each x (h.sub x hx)).2.2.2.1
  · obtain ⟨l, hl, hk⟩ := List.mem_flatMap.1 hk
    obtain ⟨y, hy, e⟩ := List.mem_map.1 hk
    obtain ⟨i, hi, e2⟩ := List.getElem_of_mem hl
    obtain ⟨x, hx, e3⟩ := (h.lane i l (by rw [List.getElem?_eq_getElem hi, e2])).wt y hy
    have hx' := (List.mem_filter.1 (List.mem_of_getElem? hx)).1
    rw [← e, e3]
    exact (hn.each x hx').2.2.2.1

/-- A key that is one of the four, and not there: there is room. -/
theorem names_room {k : ByteArray} {l : List ByteArray} (hk : k ∈ names4) (hl : ∀ y ∈ l, y ∈ names4) : ¬ (isIn k l = false ∧ 4 ≤ distinct l) := by
  rintro ⟨h1, h2⟩
  have h3 : ∀ y ∈ l, y ≠ k := fun y hy e => by
    have := (isIn_mem k l).2 (by rw [← e]; exact hy)
    rw [h1] at this
    cases this
  have h4 : ∃ m : List ByteArray, m.length = 3 ∧ ∀ y ∈ l, y ∈ m := by
    simp only [names4, List.mem_cons, List.not_mem_nil, or_false] at hk hl
    rcases hk with rfl | rfl | rfl | rfl
    · exact ⟨[kS, kL, kM], rfl, fun y hy => by have := hl y hy; have := h3 y hy; simp_all⟩
    · exact ⟨[kC, kL, kM], rfl, fun y hy => by have := hl y hy; have := h3 y hy; simp_all⟩
    · exact ⟨[kC, kS, kM], rfl, fun y hy => by have := hl y hy; have := h3 y hy; simp_all⟩
    · exact ⟨[kC, kS, kL], rfl, fun y hy => by have := hl y hy; have := h3 y hy; simp_all⟩
  obtain ⟨m, h5, h6⟩ := h4
  have := distinct_le m l h6
  omega

theorem ofS_number {all : List Rec} (hn : Numbered all) {x : Rec} (hx : x ∈ all) {i : Nat} (hi : x.session = i) : 0 ≤ x.number ∧ (ofS all i)[x.number.toNat]? = some x := by
  have hm : x ∈ ofS all i := List.mem_filter.2 ⟨hx, by simp [hi]⟩
  obtain ⟨n, hl, e⟩ := List.getElem_of_mem hm
  have h1 : (ofS all i)[n]? = some x := by rw [List.getElem?_eq_getElem hl, e]
  have h2 := hn.num i n x h1
  refine ⟨by omega, ?_⟩
  rw [h2]; exact h1

theorem okKey_four {k : ByteArray} (h : k ∈ names4) : okKey k = true := by
  simp only [names4, List.mem_cons, List.not_mem_nil, or_false] at h
  rcases h with rfl | rfl | rfl | rfl <;> rfl

/-- What an Accept of one of them makes. -/
structure Took (all ol : List Rec) (s : St) (i : Nat) (l : Ln) (x : Rec) (b : Int) : Prop where
  near : x.number < l.base + 4
  ans : (accept s x).1 = (b, 0)
  lo : l.base ≤ b
  hi : b ≤ l.base + 4
  len : b ≤ (ofS all i).length
  past : x.number ≤ l.base → x.number < b
  inv : OInv all (ol ++ ((ofS all i).drop l.base.toNat).take (b - l.base).toNat) (accept s x).2
  here : ∃ l', (accept s x).2.lanes[i]? = some l' ∧ l'.base = b
  there : ∀ j, j ≠ i → (accept s x).2.lanes[j]? = s.lanes[j]?

theorem accept_once {all ol : List Rec} {s : St} (hn : Numbered all) (h : OInv all ol s) {x : Rec} (hx : x ∈ all) {i : Nat} {l : Ln} (hi : x.session = i) (hl : s.lanes[i]? = some l) :
    (accept s x = ((0, 5), s) ∧ l.base + 4 ≤ x.number) ∨ ∃ b, Took all ol s i l x b := by
  obtain ⟨e1, e2, e3, e4, e5, e6⟩ := hn.each x hx
  have hL := h.lane i l hl
  obtain ⟨n1, n2⟩ := ofS_number hn hx hi
  have hi4 : i < 4 := by omega
  have ha : accept s x = acceptIn s i l x := by
    unfold accept
    rw [if_neg (by omega), if_neg (by rw [okKey_four e4]; simp; omega)]
    have : x.session.toNat = i := by omega
    rw [this, hl]
  have ht : l.turned x.epoch = l := by
    unfold Ln.turned
    rw [if_neg (by rw [e3, hL.ep]; omega)]
  have hset : s.lanes.set i l = s.lanes := by
    obtain ⟨hlen, e⟩ := List.getElem?_eq_some_iff.1 hl
    rw [← e]; exact List.set_getElem_self hlen
  by_cases hfar : l.base + 4 ≤ x.number
  · left
    refine ⟨?_, hfar⟩
    rw [ha]
    unfold acceptIn
    simp only [ht]
    rw [if_neg (by rw [e3, hL.ep]; omega), if_pos (.inr hfar)]
  · right
    by_cases hold : x.number < l.base ∨ l.ws.any (fun y => y.num == x.number) = true
    · have hb : accept s x = ((l.base, 0), s) := by
        rw [ha]
        unfold acceptIn
        simp only [ht]
        rw [if_neg (by rw [e3, hL.ep]; omega), if_neg (by omega), if_pos hold]
      refine ⟨l.base, by omega, by rw [hb], by omega, by omega, hL.hi, fun h1 => ?_, ?_, ⟨l, by rw [hb]; exact hl, rfl⟩, fun j _ => by rw [hb]⟩
      · rcases hold with h2 | h2
        · exact h2
        · obtain ⟨y, hy, e⟩ := List.any_eq_true.1 h2
          have := (hL.win y hy).1
          have e : y.num = x.number := by simpa using e
          omega
      · rw [hb]
        have : (l.base - l.base).toNat = 0 := by omega
        rw [this]
        simpa using h
    · have hnw : ∀ y ∈ l.ws, y.num ≠ x.number := fun y hy e => hold (.inr (List.any_eq_true.2 ⟨y, hy, by simp [e]⟩))
      have hnb : l.base ≤ x.number := by
        rcases Int.lt_or_le x.number l.base with h1 | h1
        · exact absurd (.inl h1) hold
        · exact h1
      have htn : (⟨s.lanes.set i l, s.keys⟩ : St) = s := by rw [hset]
      have hroom := names_room e4 (h.names hn)
      have htot := h.total hn
      have hfew := hn.few
      obtain ⟨n, d1, d2, d3, d4, d5⟩ := drain_once (ofS all i) (putW x.wt l.ws) l.base s.keys hL.lo (putW_up _ hL.up hnw) (fun y hy => by
        rcases (mem_putW _ _ _).1 hy with rfl | hy
        · exact ⟨hnb, x, n2, rfl⟩
        · exact ⟨by have := (hL.win y hy).1; omega, hL.wt y hy⟩)
      have hn4 : n ≤ 4 := by
        rcases up_len (putW x.wt l.ws) l.base (l.base + 4) (putW_up _ hL.up hnw) (fun y hy => by
          rcases (mem_putW _ _ _).1 hy with rfl | hy
          · exact ⟨hnb, by show x.number < _; omega⟩
          · have := hL.win y hy; omega) with e | e
        · rw [e] at d2; simp at d2; omega
        · omega
      have hb : accept s x = ((l.base + n, 0), ⟨s.lanes.set i ⟨0, l.base + n, (putW x.wt l.ws).drop n⟩, keysOf (((ofS all i).drop l.base.toNat).take n) s.keys⟩) := by
        rw [ha]
        unfold acceptIn
        simp only [ht, htn]
        rw [if_neg (by rw [e3, hL.ep]; omega), if_neg (by omega), if_neg hold, if_neg hroom, if_neg (by omega)]
        have d1' : drainW l.base (putW ⟨x.number, x.key, x.value⟩ l.ws) s.keys = _ := d1
        rw [d1', hL.ep]
      have hlen : l.base + n ≤ (ofS all i).length := by
        rcases d3 with d3 | d3
        · subst d3; have := hL.hi; omega
        · exact d3
      have hilen : i < s.lanes.length := by rw [h.four]; exact hi4
      have hnt : (l.base + (n : Int) - l.base).toNat = n := by omega
      have hlo := hL.lo
      refine ⟨l.base + n, by omega, by rw [hb], by omega, by omega, hlen, fun h1 => ?_, ?_, ⟨⟨0, l.base + n, (putW x.wt l.ws).drop n⟩, by rw [hb]; simp [List.getElem?_set_self hilen], rfl⟩, fun j hj => by rw [hb]; exact List.getElem?_set_ne (fun e => hj e.symm)⟩
      · have hhead : (putW x.wt l.ws).head? = some x.wt := putW_head _ (fun y hy => by have := (hL.win y hy).1; show x.number < _; omega)
        have := d5 _ hhead (show x.number = l.base by omega)
        omega
      · rw [hb, hnt]
        refine ⟨by simpa using h.four, ?_, fun j l' hl' => ?_, ?_, fun y hy => ?_⟩
        · rw [keysOf_append, ← h.keys]
        · by_cases hj : i = j
          · subst hj
            rw [List.getElem?_set_self hilen] at hl'
            simp at hl'
            subst hl'
            refine ⟨rfl, by show 0 ≤ l.base + (n : Int); omega, hlen, ?_, fun y hy => ?_, fun y hy => ?_⟩
            · exact (putW_up _ hL.up hnw).sublist (List.drop_sublist _ _)
            · refine ⟨d4 y hy, ?_⟩
              rcases (mem_putW _ _ _).1 (List.mem_of_mem_drop hy) with rfl | hy
              · show x.number < l.base + (n : Int) + 4; omega
              · have := (hL.win y hy).2; show y.num < l.base + (n : Int) + 4; omega
            · rcases (mem_putW _ _ _).1 (List.mem_of_mem_drop hy) with rfl | hy
              · exact ⟨x, n2, rfl⟩
              · exact hL.wt y hy
          · rw [List.getElem?_set_ne hj] at hl'
            exact h.lane j l' hl'
        · rw [bases_set _ _ _ _ hl, ← h.sum]
          simp only [List.length_append, List.length_take, List.length_drop]
          omega
        · rcases List.mem_append.1 hy with hy | hy
          · exact h.sub y hy
          · exact (List.mem_filter.1 (List.mem_of_mem_drop (List.mem_of_mem_take hy))).1

theorem OInv.init (all : List Rec) : OInv all [] St.init := by
  refine ⟨rfl, rfl, fun i l hl => ?_, rfl, by simp⟩
  have : l = Ln.init := by
    have := List.mem_of_getElem? hl
    simp [St.init] at this
    exact this
  subst this
  exact ⟨rfl, by simp [Ln.init], by simp [Ln.init], by simp [Ln.init], by simp [Ln.init], by simp [Ln.init]⟩

end Go.Proofs.YthedkdbgfdjlkaaGreat

/- Once, THE PURE PART: what the ledger holds of each key. -/
namespace Go.Proofs.YthedkdbgfdjlkaaGreat
set_option linter.unusedVariables false
set_option linter.unusedSimpArgs false
open Go.RowKit

/-- How many of these have the key, and their fold. -/
def tallyOne (name : ByteArray) (p : Int × Int) (x : Rec) : Int × Int := if x.key = name then (p.1 + 1, foldOne name (p.1 + 1) p.2 x.value) else p
def tally (name : ByteArray) (l : List Rec) : Int × Int := l.foldl (tallyOne name) (0, 0)

theorem tally_snoc (name : ByteArray) (l : List Rec) (x : Rec) : tally name (l ++ [x]) = tallyOne name (tally name l) x := by
  unfold tally
  rw [List.foldl_append]; rfl

theorem tally_none (name : ByteArray) : ∀ (l : List Rec) (p : Int × Int), (∀ x ∈ l, x.key ≠ name) → l.foldl (tallyOne name) p = p
  | [], p, _ => rfl
  | x :: r, p, h => by
    rw [List.foldl_cons]
    have : tallyOne name p x = p := by unfold tallyOne; rw [if_neg (h x (by simp))]
    rw [this]
    exact tally_none name r p (fun y hy => h y (by simp [hy]))

theorem tally_grow (name : ByteArray) : ∀ (l : List Rec) (p : Int × Int), p.1 ≤ (l.foldl (tallyOne name) p).1 ∧ (l.foldl (tallyOne name) p).1 ≤ p.1 + l.length
  | [], p => by simp
  | x :: r, p => by
    obtain ⟨h1, h2⟩ := tally_grow name r (tallyOne name p x)
    have h3 : p.1 ≤ (tallyOne name p x).1 ∧ (tallyOne name p x).1 ≤ p.1 + 1 := by
      unfold tallyOne
      split
      · simp only; omega
      · omega
    rw [List.foldl_cons]
    simp only [List.length_cons]
    omega

/-- Where the count is whole already, so is the fold. -/
theorem tally_stop (name : ByteArray) : ∀ (l : List Rec) (p : Int × Int), (l.foldl (tallyOne name) p).1 = p.1 → l.foldl (tallyOne name) p = p
  | [], p, _ => rfl
  | x :: r, p, h => by
    rw [List.foldl_cons] at h ⊢
    have h2 := (tally_grow name r (tallyOne name p x)).1
    have h3 : tallyOne name p x = p := by
      unfold tallyOne at h2 h ⊢
      split
      · rename_i e
        rw [if_pos e] at h2 h
        simp only at h2
        omega
      · rfl
    rw [h3] at h ⊢
    exact tally_stop name r p h

theorem tally_take_next (name : ByteArray) (l : List Rec) (i : Nat) (x : Rec) (h : l[i]? = some x) : tally name (l.take (i + 1)) = tallyOne name (tally name (l.take i)) x := by
  obtain ⟨hl, e⟩ := List.getElem?_eq_some_iff.1 h
  rw [List.take_succ_eq_append_getElem hl, e, tally_snoc]

theorem tally_take_le (name : ByteArray) (l : List Rec) (i : Nat) : 0 ≤ (tally name (l.take i)).1 ∧ (tally name (l.take i)).1 ≤ (tally name l).1 ∧ (tally name l).1 ≤ l.length := by
  have h1 := tally_grow name (l.take i) (0, 0)
  have h2 := tally_grow name (l.drop i) (tally name (l.take i))
  have h3 := tally_grow name l (0, 0)
  have e : (l.drop i).foldl (tallyOne name) (tally name (l.take i)) = tally name l := by
    unfold tally
    rw [← List.foldl_append, List.take_append_drop]
  rw [e] at h2
  unfold tally at *
  simp only at *
  omega

theorem tally_take_stop (name : ByteArray) (l : List Rec) (i : Nat) (h : (tally name (l.take i)).1 = (tally name l).1) : tally name (l.take i) = tally name l := by
  have e : (l.drop i).foldl (tallyOne name) (tally name (l.take i)) = tally name l := by
    unfold tally
    rw [← List.foldl_append, List.take_append_drop]
  rw [← e]
  exact (tally_stop name _ _ (by rw [e, h])).symm

theorem takeKy_cases (name : ByteArray) (val : Int) : ∀ {ks : List Ky}, Sorted ks → ∀ k ∈ takeKy name val ks, (k ∈ ks ∧ k.name ≠ name) ∨ (∃ y ∈ ks, y.name = name ∧ k = y.more val) ∨ (k = (⟨name, 0, 0, 0⟩ : Ky).more val ∧ ∀ y ∈ ks, y.name ≠ name)
  | [], _, k, h => by
    simp [takeKy] at h
    exact .inr (.inr ⟨h, by simp⟩)
  | z :: r, hs, k, h => by
    obtain ⟨h1, h2⟩ := List.pairwise_cons.1 hs
    unfold takeKy at h
    split at h
    · rename_i e
      rcases List.mem_cons.1 h with rfl | hk
      · exact .inr (.inl ⟨z, by simp, e, rfl⟩)
      · refine .inl ⟨by simp [hk], fun e2 => ?_⟩
        have := h1 k hk
        rw [e, e2, less_irrefl] at this
        cases this
    · rename_i e
      split at h
      · rename_i hl
        have hr : ∀ y ∈ z :: r, y.name ≠ name := fun y hy e2 => by
          rcases List.mem_cons.1 hy with rfl | hy
          · exact e e2
          · have := less_trans hl (h1 y hy)
            rw [e2, less_irrefl] at this
            cases this
        rcases List.mem_cons.1 h with rfl | hk
        · exact .inr (.inr ⟨rfl, hr⟩)
        · exact .inl ⟨hk, hr k hk⟩
      · rcases List.mem_cons.1 h with rfl | hk
        · exact .inl ⟨by simp, e⟩
        · rcases takeKy_cases name val h2 k hk with ⟨g1, g2⟩ | ⟨y, g1, g2, g3⟩ | ⟨g1, g2⟩
          · exact .inl ⟨by simp [g1], g2⟩
          · exact .inr (.inl ⟨y, by simp [g1], g2, g3⟩)
          · refine .inr (.inr ⟨g1, fun y hy => ?_⟩)
            rcases List.mem_cons.1 hy with rfl | hy
            · exact e
            · exact g2 y hy

theorem takeKy_has (name : ByteArray) (val : Int) : ∀ (ks : List Ky), (∃ k ∈ takeKy name val ks, k.name = name) ∧ ∀ y ∈ ks, ∃ k ∈ takeKy name val ks, k.name = y.name
  | [] => by simp [takeKy, Ky.more]
  | z :: r => by
    obtain ⟨⟨k, hk, ek⟩, h⟩ := takeKy_has name val r
    unfold takeKy
    split
    · rename_i e
      refine ⟨⟨z.more val, by simp, e⟩, fun y hy => ?_⟩
      rcases List.mem_cons.1 hy with rfl | hy
      · exact ⟨y.more val, by simp, rfl⟩
      · exact ⟨y, by simp [hy], rfl⟩
    · split
      · refine ⟨⟨_, List.mem_cons_self, rfl⟩, fun y hy => ⟨y, List.mem_cons_of_mem _ hy, rfl⟩⟩
      · refine ⟨⟨k, by simp [hk], ek⟩, fun y hy => ?_⟩
        rcases List.mem_cons.1 hy with rfl | hy
        · exact ⟨y, by simp, rfl⟩
        · obtain ⟨k', g1, g2⟩ := h y hy
          exact ⟨k', by simp [g1], g2⟩

/-- The ledger is the tally. -/
theorem keysOf_tally (l : List Rec) : Sorted (keysOf l []) ∧ (∀ k ∈ keysOf l [], (k.count, k.fold) = tally k.name l) ∧ (∀ x ∈ l, ∃ k ∈ keysOf l [], k.name = x.key) := by
  suffices h : ∀ n : Nat, ∀ l : List Rec, l.length = n → Sorted (keysOf l []) ∧ (∀ k ∈ keysOf l [], (k.count, k.fold) = tally k.name l) ∧ (∀ x ∈ l, ∃ k ∈ keysOf l [], k.name = x.key) from h _ l rfl
  intro n
  induction n with
  | zero =>
    intro l hl
    have : l = [] := List.length_eq_zero_iff.1 hl
    subst this
    exact ⟨List.Pairwise.nil, by simp [keysOf], by simp⟩
  | succ n ih =>
    intro l hl
    obtain ⟨r, x, rfl⟩ : ∃ r x, l = r ++ [x] := ⟨l.dropLast, l.getLast (by intro h; rw [h] at hl; simp at hl), (List.dropLast_concat_getLast _).symm⟩
    obtain ⟨h1, h2, h3⟩ := ih r (by simpa using hl)
    have e : keysOf (r ++ [x]) [] = takeKy x.key x.value (keysOf r []) := by rw [keysOf_append]; rfl
    rw [e]
    refine ⟨takeKy_sorted _ _ h1, fun k hk => ?_, fun y hy => ?_⟩
    · rw [tally_snoc]
      rcases takeKy_cases _ _ h1 k hk with ⟨g1, g2⟩ | ⟨y, g1, g2, g3⟩ | ⟨g1, g2⟩
      · have := h2 k g1
        rw [← this]
        unfold tallyOne
        rw [if_neg (fun e => g2 e.symm)]
      · have := h2 y g1
        rw [g3]
        simp only [Ky.more]
        rw [← this]
        unfold tallyOne
        rw [if_pos g2.symm]
      · have h0 : tally x.key r = (0, 0) := tally_none _ _ _ (fun y hy e => by
          obtain ⟨k', q1, q2⟩ := h3 y hy
          exact g2 k' q1 (q2.trans e))
        rw [g1]
        simp only [Ky.more]
        rw [h0]
        unfold tallyOne
        rw [if_pos rfl]
    · obtain ⟨t1, t2⟩ := takeKy_has x.key x.value (keysOf r [])
      rcases List.mem_append.1 hy with hy | hy
      · obtain ⟨k, q1, q2⟩ := h3 y hy
        obtain ⟨k', q3, q4⟩ := t2 k q1
        exact ⟨k', q3, q4.trans q2⟩
      · simp at hy
        subst hy
        exact t1

/-- What is kept of a key that is there. -/
theorem OInv.key {all ol : List Rec} {s : St} (h : OInv all ol s) (hn : Numbered all) {k : Ky} (hk : k ∈ s.keys) : k.name ∈ names4 ∧ k.count = (tally k.name ol).1 ∧ k.fold = (tally k.name ol).2 := by
  have hm := h.names hn k.name (by unfold St.names; exact List.mem_append.2 (.inl (List.mem_map.2 ⟨k, hk, rfl⟩)))
  rw [h.keys] at hk
  have := (keysOf_tally ol).2.1 k hk
  rw [← this]
  exact ⟨hm, rfl, rfl⟩

theorem OInv.whole {all ol : List Rec} {s : St} (h : OInv all ol s) : counts s.keys = ol.length := by
  rw [h.keys, counts_keysOf]; simp [counts]

/-- All were taken. -/
theorem OInv.all {all ol : List Rec} {s : St} (h : OInv all ol s) (hn : Numbered all) (hb : ∀ (i : Nat) (l : Ln), s.lanes[i]? = some l → (ofS all i).length ≤ l.base) : ol.length = all.length := by
  have ht := ofS_total all (fun x hx => ⟨(hn.each x hx).1, (hn.each x hx).2.1⟩)
  have hs := h.sum
  have hl := h.lane
  have h4 := h.four
  match e : s.lanes, h4 with
  | [l0, l1, l2, l3], _ =>
    rw [e] at hb hl hs
    have r0 := hb 0 l0 rfl
    have r1 := hb 1 l1 rfl
    have r2 := hb 2 l2 rfl
    have r3 := hb 3 l3 rfl
    have q0 := (hl 0 l0 rfl).hi
    have q1 := (hl 1 l1 rfl).hi
    have q2 := (hl 2 l2 rfl).hi
    have q3 := (hl 3 l3 rfl).hi
    simp only [bases] at hs
    omega

end Go.Proofs.YthedkdbgfdjlkaaGreat

/- Records as cells. -/
namespace Go.Proofs.YthedkdbgfdjlkaaGreat
set_option linter.unusedVariables false
set_option linter.unusedSimpArgs false
open Go.RowKit

def Rec.cells (x : Rec) : List Value := [.int .i64 x.session, .int .i64 x.epoch, .int .i64 x.number, .string x.key, .int .i64 x.value]

def recCells : List Rec → List Value
  | [] => []
  | x :: r => x.cells ++ recCells r

theorem recCells_len : ∀ l : List Rec, (recCells l).length = l.length * 5
  | [] => rfl
  | x :: r => by
    have := recCells_len r
    simp [recCells, Rec.cells, this]
    omega

theorem recCells_append : ∀ a b : List Rec, recCells (a ++ b) = recCells a ++ recCells b
  | [], b => rfl
  | x :: r, b => by simp [recCells, recCells_append r b]

theorem recCells_at : ∀ (l : List Rec) (i : Nat) (x : Rec), l[i]? = some x → (recCells l)[i * 5]? = some (.int .i64 x.session) ∧ (recCells l)[i * 5 + 1]? = some (.int .i64 x.epoch) ∧ (recCells l)[i * 5 + 2]? = some (.int .i64 x.number) ∧ (recCells l)[i * 5 + 3]? = some (.string x.key) ∧ (recCells l)[i * 5 + 4]? = some (.int .i64 x.value)
  | [], i, x, h => by simp at h
  | y :: r, 0, x, h => by simp at h; subst h; simp [recCells, Rec.cells]
  | y :: r, i + 1, x, h => by
    have := recCells_at r i x (by simpa using h)
    rw [show (i + 1) * 5 = i * 5 + 5 by omega, show i * 5 + 5 + 1 = i * 5 + 1 + 5 by omega, show i * 5 + 5 + 2 = i * 5 + 2 + 5 by omega, show i * 5 + 5 + 3 = i * 5 + 3 + 5 by omega, show i * 5 + 5 + 4 = i * 5 + 4 + 5 by omega]
    simpa [recCells, Rec.cells] using this

end Go.Proofs.YthedkdbgfdjlkaaGreat

/- Once: THE SMALL FUNCTIONS, WALKED: name, fold. -/
namespace Go.Proofs.YthedkdbgfdjlkaaGreat
set_option linter.unusedVariables false
set_option linter.unusedSimpArgs false
open Go.RowKit

/-- The name that a raw number picks. -/
def nameI (c : Int) : ByteArray := names4.getD (pickI c 4).toNat kC

theorem nameI_mem (c : Int) : nameI c ∈ names4 := by
  have h := pickI_range (c := c) (n := 4) (by omega)
  unfold nameI
  have hl : (pickI c 4).toNat < names4.length := by show _ < 4; omega
  rw [List.getD_eq_getElem?_getD, List.getElem?_eq_getElem hl]
  exact List.getElem_mem hl

set_option maxHeartbeats 400000 in
theorem name_any (c : Int) (w : World) (hc : inInt c) : Calls Tryz.prog 25 #[.int .i64 c] w fun e w' => e = .returned (.string (nameI c)) ∧ Chg (fun _ => False) w w' := by
  have hp := fun w => pick_any c 4 w hc (by omega) (by omega)
  have hr := pickI_range (c := c) (n := 4) (by omega)
  go_enter Tryz.func25, Tryz.ntmps25
  go_wp2_with fail
  refine (hp _).mono ?_
  rintro _ w1 ⟨rfl, ew⟩
  rw [ew]
  clear ew w1
  obtain ⟨j, hj⟩ : ∃ j, j = pickI c 4 := ⟨_, rfl⟩
  have HJ : Hid (nameI c = names4.getD j.toNat kC) := by show _ = _; rw [hj]; rfl
  rw [← hj] at hr ⊢
  clear hj hp
  rcases (by omega : j = 0 ∨ j = 1 ∨ j = 2 ∨ j = 3) with rfl | rfl | rfl | rfl
  all_goals
    go_wp2
    go_ret
    refine ⟨?_, (Chg.refl _ _).alloc _⟩
    rw [HJ.out]
    rfl

theorem tally_range {key : ByteArray} (hk : key ∈ names4) : ∀ (l : List Rec) (p : Int × Int), (∀ x ∈ l, 0 ≤ x.value ∧ x.value ≤ 4294967295) → 0 ≤ p.1 → p.1 + l.length ≤ 1000 → 0 ≤ p.2 ∧ p.2 ≤ 4294967295 → 0 ≤ (l.foldl (tallyOne key) p).2 ∧ (l.foldl (tallyOne key) p).2 ≤ 4294967295
  | [], p, _, _, _, h => h
  | x :: r, p, hv, h0, h1, h2 => by
    rw [List.foldl_cons]
    have hx := hv x (by simp)
    simp only [List.length_cons] at h1
    have h3 : 0 ≤ (tallyOne key p x).1 ∧ (tallyOne key p x).1 ≤ p.1 + 1 ∧ 0 ≤ (tallyOne key p x).2 ∧ (tallyOne key p x).2 ≤ 4294967295 := by
      unfold tallyOne
      split
      · simp only [names4, List.mem_cons, List.not_mem_nil, or_false] at hk
        rcases hk with rfl | rfl | rfl | rfl <;> simp [foldOne, kC, kS, kL, kM] <;> omega
      · omega
    exact tally_range hk r _ (fun y hy => hv y (by simp [hy])) h3.1 (by omega) h3.2.2

set_option maxHeartbeats 2000000 in
theorem kfold_any {w : World} {lo : Nat} {v : Value} {l : List Rec} {key : ByteArray} (hr : w.ownsRow lo 34 5 v l.length (recCells l)) (hk : key ∈ names4) (hl : l.length ≤ 900) (hv : ∀ x ∈ l, 0 ≤ x.value ∧ x.value ≤ 4294967295) :
    Calls Tryz.prog 22 #[v, .string key, .int .i64 (tally key l).1] w fun e w' => e = .returned (.int .i64 (tally key l).2) ∧ w' = w := by
  obtain ⟨p, cap, rfl⟩ := row_any hr
  have hT := (tally_take_le key l 0).2.2
  have hT0 := (tally_take_le key l l.length).1
  rw [List.take_length] at hT0
  obtain ⟨N, hN⟩ : ∃ N, N = (tally key l).1 := ⟨_, rfl⟩
  rw [← hN] at hT hT0 ⊢
  have HN : Hid (N = (tally key l).1) := hN
  clear hN
  go_enter Tryz.func22, Tryz.ntmps22
  go_wp2_with fail
  go_loopw [7, 8, 9, 10] (fun sf sc si _ wr => ∃ (i : Nat) (c f : Int), si = .int .i64 i ∧ i ≤ l.length ∧ sc = .int .i64 c ∧ sf = .int .i64 f ∧ Hid (tally key (l.take i) = (c, f)) ∧ Hid (wr = w)) (fun _ _ si _ _ => l.length - (intOf si).toNat)
  case atStart => exact ⟨0, 0, 0, rfl, by omega, rfl, rfl, (show _ = _ from rfl), (show _ = _ from rfl)⟩
  case round =>
    obtain ⟨i, c, f, rfl, hi, rfl, rfl, HT, HW⟩ := hrel
    have hc : Chg (fun _ => False) w wr := by rw [HW.out]; exact Chg.refl _ _
    have hle := tally_take_le key l i
    rw [HT.out, ← HN.out] at hle
    simp only at hle
    have hrg := tally_range hk (l.take i) (0, 0) (fun x hx => hv x (List.mem_of_mem_take hx)) (by simp) (by simp only [List.length_take]; omega) (by simp)
    have hrg' : 0 ≤ f ∧ f ≤ 4294967295 := by
      have : ((l.take i).foldl (tallyOne key) (0, 0)) = (c, f) := HT.out
      rw [this] at hrg
      exact hrg
    clear hrg
    by_cases hil : i < l.length
    · have hil' : (i : Int) < (l.length : Int) := by omega
      by_cases hcn : c < N
      · obtain ⟨x, hx⟩ : ∃ x, l[i]? = some x := ⟨_, List.getElem?_eq_getElem hil⟩
        obtain ⟨g, cap', hvs, _, _, hcell⟩ := row_pos hr (by omega)
        simp only [Value.slice.injEq] at hvs
        obtain ⟨rfl, _, rfl⟩ := hvs
        have cx := recCells_at l i x hx
        have m3 := hc.cellAt (hcell _ _ cx.2.2.2.1) id
        have m4 := hc.cellAt (hcell _ _ cx.2.2.2.2) id
        have hxv := hv x (List.mem_of_getElem? hx)
        have hnx := tally_take_next key l i x hx
        rw [HT.out] at hnx
        have HNX : Hid (tally key (l.take (i + 1)) = tallyOne key (c, f) x) := hnx
        clear hcell cx hnx HN
        by_cases hke : x.key = key
        · rw [hke] at m3
          have HNX' : Hid (tally key (l.take (i + 1)) = (c + 1, foldOne key (c + 1) f x.value)) := by
            show _ = _
            rw [HNX.out]; unfold tallyOne; rw [if_pos hke]
          clear HNX hke HT
          simp only [names4, List.mem_cons, List.not_mem_nil, or_false] at hk
          rcases hk with rfl | rfl | rfl | rfl
          · simp only [kC] at m3 ⊢
            go_wp2_with fail
            refine ⟨⟨i + 1, c + 1, c + 1, by go_num, by omega, rfl, rfl, HNX', HW⟩, by simp [intOf]; omega⟩
          · simp only [kS] at m3 ⊢
            go_wp2_with fail
            exact ⟨⟨i + 1, c + 1, (f + x.value) % 4294967296, by go_num, by omega, rfl, rfl, HNX', HW⟩, by simp [intOf]; omega⟩
          · simp only [kL] at m3 ⊢
            go_wp2_with fail
            exact ⟨⟨i + 1, c + 1, x.value, by go_num, by omega, rfl, rfl, HNX', HW⟩, by simp [intOf]; omega⟩
          · have hmx : foldOne kM (c + 1) f x.value = max f x.value := rfl
            rw [hmx] at HNX'
            clear hmx
            simp only [kM] at m3 HNX' ⊢
            by_cases hgt : f < x.value
            · rw [Int.max_eq_right (by omega)] at HNX'
              go_wp2_with fail
              exact ⟨⟨i + 1, c + 1, x.value, by go_num, by omega, rfl, rfl, HNX', HW⟩, by simp [intOf]; omega⟩
            · rw [Int.max_eq_left (by omega)] at HNX'
              go_wp2_with fail
              exact ⟨⟨i + 1, c + 1, f, by go_num, by omega, rfl, rfl, HNX', HW⟩, by simp [intOf]; omega⟩
        · have hkn : (x.key.toList == key.toList) = false := by
            rw [beq_eq_false_iff_ne]
            intro e
            rw [ByteArray.toList_eq, ByteArray.toList_eq] at e
            exact hke (ByteArray.ext (Array.toList_inj.1 e))
          have HNX' : Hid (tally key (l.take (i + 1)) = (c, f)) := by
            show _ = _
            rw [HNX.out]; unfold tallyOne; rw [if_neg hke]
          clear HNX hke
          go_wp2_with fail
          refine ⟨⟨i + 1, c, f, by go_num, by omega, rfl, rfl, HNX', HW⟩, by simp [intOf]; omega⟩
      · have hcN : c = N := by omega
        have HF : Hid ((tally key l).2 = f) := by
          show _ = _
          rw [← tally_take_stop key l i (by rw [HT.out, ← HN.out]; exact hcN), HT.out]
        clear HT HN hcN
        go_wp2_with fail
        go_ret
        exact ⟨by rw [HF.out]; rfl, HW.out⟩
    · have hil' : ¬ (i : Int) < (l.length : Int) := by omega
      have HF : Hid ((tally key l).2 = f) := by
        show _ = _
        have := HT.out
        rw [List.take_of_length_le (by omega)] at this
        rw [this]
      clear HT HN
      go_wp2_with fail
      go_ret
      exact ⟨by rw [HF.out]; rfl, HW.out⟩

end Go.Proofs.YthedkdbgfdjlkaaGreat

/- Once: numbered, WALKED. -/
namespace Go.Proofs.YthedkdbgfdjlkaaGreat
set_option linter.unusedVariables false
set_option linter.unusedSimpArgs false
open Go.RowKit Go.Lib

structure Snt where
  session : Int
  key : Int
  value : Int

/-- A list of sent ones in memory. -/
structure SentAt (w : World) (v : Value) (L : List Snt) : Prop where
  val : ∃ p cap, v = .slice p L.length cap
  len : L.length ≤ 9223372036854775807
  cells : ∀ i x, L[i]? = some x → ∃ sb so cap, v = .slice (some ⟨sb, so, none⟩) L.length cap ∧ w.cell? ⟨sb, so + i * 3, none⟩ = some (.int .i64 x.session) ∧ w.cell? ⟨sb, so + i * 3 + 1, none⟩ = some (.int .i64 x.key) ∧ w.cell? ⟨sb, so + i * 3 + 2, none⟩ = some (.int .i64 x.value)
  fits : ∀ x ∈ L, inInt x.session ∧ inInt x.key ∧ inInt x.value

theorem Tryz.infoR : (Tryz.prog.info? 34).map (fun i => (i.zero, i.size, i.bytes)) = some (some (.agg #[.int .i64 0, .int .i64 0, .int .i64 0, .string { data := #[] }, .int .i64 0]), 5, 48) := by kernel_rfl

theorem ofS_snoc (A : List Rec) (x : Rec) (i : Nat) : ofS (A ++ [x]) i = if x.session = i then ofS A i ++ [x] else ofS A i := by
  unfold ofS
  rw [List.filter_append]
  split
  · rename_i h; simp [h]
  · rename_i h; simp [h]

/-- One more, numbered. -/
theorem Numbered.snoc {A : List Rec} (h : Numbered A) {s : Nat} {k : ByteArray} {v : Int} (hA : A.length < 900) (hs : s < 4) (hk : k ∈ names4) (hv : 0 ≤ v ∧ v ≤ 4294967295) : Numbered (A ++ [⟨s, 0, (ofS A s).length, k, v⟩]) := by
  refine ⟨by simp; omega, fun x hx => ?_, fun i n x hx => ?_⟩
  · rcases List.mem_append.1 hx with hx | hx
    · exact h.each x hx
    · simp at hx
      subst hx
      exact ⟨by show (0 : Int) ≤ (s : Int); omega, by show (s : Int) < 4; omega, rfl, hk, hv⟩
  · rw [ofS_snoc] at hx
    split at hx
    · rename_i hi
      have hi : s = i := by have : ((s : Int) = i) := hi; omega
      subst hi
      by_cases hn : n < (ofS A s).length
      · rw [List.getElem?_append_left hn] at hx
        exact h.num s n x hx
      · rw [List.getElem?_append_right (by omega)] at hx
        have : n - (ofS A s).length = 0 := by
          rcases Nat.eq_zero_or_pos (n - (ofS A s).length) with h | h
          · exact h
          · rw [List.getElem?_eq_none (by simp; omega)] at hx; cases hx
        rw [this] at hx
        simp at hx
        subst hx
        show ((ofS A s).length : Int) = n
        omega
    · exact h.num i n x hx

theorem Numbered.nil : Numbered [] := ⟨by simp, by simp, fun i n x h => by simp [ofS] at h⟩

set_option maxHeartbeats 4000000 in
theorem numbered_any {w : World} {v : Value} {L : List Snt} (hS : SentAt w v L) :
    Calls Tryz.prog 9 #[v] w fun e w' => ∃ va all, e = .returned va ∧ w'.ownsRow w.heap.size 34 5 va all.length (recCells all) ∧ Numbered all ∧ Chg (fun _ => False) w w' := by
  obtain ⟨i0, hi0, hz0, hz1, hz2⟩ := info_parts Tryz.infoR
  obtain ⟨pv, cv, rfl⟩ := hS.val
  have hlen := hS.len
  obtain ⟨W0, hW0⟩ : ∃ W0, W0 = w.alloc (Obj.cells #[.int .i64 0, .int .i64 0, .int .i64 0, .int .i64 0] 30) := ⟨_, rfl⟩
  have hs0 : W0.heap.size = w.heap.size + 1 := by rw [hW0]; simp
  have c0 : Chg (fun _ => False) w W0 := by rw [hW0]; exact (Chg.refl _ w).alloc _
  have r0 : ∀ j, j < 4 → W0.cell? ⟨w.heap.size, j, none⟩ = some (.int .i64 ((ofS [] j).length : Int)) := fun j hj => by
    rw [hW0]
    rcases (by omega : j = 0 ∨ j = 1 ∨ j = 2 ∨ j = 3) with rfl | rfl | rfl | rfl <;> exact World.cell?_alloc_at _ _ _ _ rfl
  have rf : ∀ j, W0.frozen? ⟨w.heap.size, j, none⟩ = false := fun j => by rw [hW0]; exact World.frozen?_alloc_at _ _ _ _ rfl
  have HS0 : Hid (W0.heap.size = w.heap.size + 1) := hs0
  have hsz0 : w.heap.size + 1 ≤ W0.heap.size := by omega
  go_enter Tryz.func9, Tryz.ntmps9
  go_wp2_with fail
  rw [← hW0]
  clear hW0 hs0
  go_loopw [4, 5, 6, 7, 8] (fun sv si _ _ _ wr => ∃ (i : Nat) (A : List Rec), si = .int .i64 i ∧ i ≤ L.length ∧ i ≤ 900 ∧ A.length = i ∧ Numbered A ∧ wr.ownsRow (w.heap.size + 1) 34 5 sv A.length (recCells A) ∧ (∀ j, j < 4 → wr.cell? ⟨w.heap.size, j, none⟩ = some (.int .i64 ((ofS A j).length : Int))) ∧ (∀ j, wr.frozen? ⟨w.heap.size, j, none⟩ = false) ∧ Chg (fun _ => False) w wr ∧ w.heap.size + 1 ≤ wr.heap.size) (fun _ si _ _ _ _ => L.length - (intOf si).toNat)
  case atStart => exact ⟨0, [], rfl, by omega, by omega, rfl, Numbered.nil, World.ownsRow_nil _ _ _ _, r0, rf, c0, hsz0⟩
  case round =>
    obtain ⟨i, A, rfl, hi, hi9, hA, hN, hown, hcnt, hfz, hc, hsz⟩ := hrel
    clear r0 rf c0 hsz0
    by_cases hil : i < L.length
    · have hil' : (i : Int) < (L.length : Int) := by omega
      by_cases h9 : i < 900
      · have h9' : (i : Int) < 900 := by omega
        obtain ⟨x, hx⟩ : ∃ x, L[i]? = some x := ⟨_, List.getElem?_eq_getElem hil⟩
        obtain ⟨sb, so, cap, hvv, y0, y1, y2⟩ := hS.cells i x hx
        simp only [Value.slice.injEq] at hvv
        obtain ⟨rfl, _, rfl⟩ := hvv
        obtain ⟨f0, f1, f2⟩ := hS.fits x (List.mem_of_getElem? hx)
        have hp1 := fun w => pick_any x.session 4 w f0 (by omega) (by omega)
        have hp2 := fun w => pick_any x.value 4294967296 w f2 (by omega) (by omega)
        have hnm := fun w => name_any x.key w f1
        have hr1 := pickI_range (c := x.session) (n := 4) (by omega)
        have hr2 := pickI_range (c := x.value) (n := 4294967296) (by omega)
        have hkn := nameI_mem x.key
        obtain ⟨sn, hsn⟩ : ∃ sn : Nat, pickI x.session 4 = sn := ⟨(pickI x.session 4).toNat, by omega⟩
        rw [hsn] at hp1 hr1
        obtain ⟨PV, hPV⟩ : ∃ PV, PV = pickI x.value 4294967296 := ⟨_, rfl⟩
        rw [← hPV] at hp2 hr2
        obtain ⟨NM, hNM⟩ : ∃ NM, NM = nameI x.key := ⟨_, rfl⟩
        rw [← hNM] at hnm hkn
        clear hsn hPV hNM hx f0 f1 f2
        have hsn4 : sn < 4 := by omega
        have hsn4' : (sn : Int) < 4 := by omega
        have yr0 := hc.cellAt y0 id
        have yr1 := hc.cellAt y1 id
        go_wp2_with fail
        refine (hp1 _).mono ?_
        rintro _ wp ⟨rfl, ewp⟩
        rw [ewp]
        clear ewp wp
        go_wp2_with fail
        refine (hnm _).mono ?_
        rintro _ w2 ⟨rfl, c2⟩
        have yr2 := (hc.trans c2 (fun _ _ h => h)).cellAt y2 id
        go_wp2_with fail
        refine (hp2 _).mono ?_
        rintro _ wp ⟨rfl, ewp⟩
        rw [ewp]
        clear ewp wp
        have hcn2 : ∀ j, j < 4 → w2.cell? ⟨w.heap.size, j, none⟩ = some (.int .i64 ((ofS A j).length : Int)) := fun j hj => c2.cellAt (hcnt j hj) id
        have hfz2 : ∀ j, w2.frozen? ⟨w.heap.size, j, none⟩ = false := fun j => (World.frozen?_of_block (w := wr) (c2.block w.heap.size (by omega) id)).trans (hfz j)
        have hcs := hcn2 sn hsn4
        have hown2 := c2.row' hown (fun _ _ h => h)
        have hsz2 : w.heap.size + 1 ≤ w2.heap.size := Nat.le_trans hsz c2.size
        have hol : (ofS A sn).length ≤ 900 := by
          have : (ofS A sn).length ≤ A.length := List.length_filter_le _ _
          omega
        obtain ⟨X, hX⟩ : ∃ X : Rec, X = ⟨sn, 0, (ofS A sn).length, NM, PV⟩ := ⟨_, rfl⟩
        obtain ⟨v', w3, hrun, a1, a2, a3⟩ := run_append_where (P := Tryz.prog) (w2.alloc (Obj.cells #[.int .i64 sn, .int .i64 0, .int .i64 ((ofS A sn).length : Int), .string NM, .int .i64 PV] 34)) (w.heap.size + 1) 27 27 34 i0 _ 5 48 Tryz.underlying27 hi0 hz0 hz1 hz2 rfl (by decide) _ A.length _ (hown2.alloc _) ⟨w2.heap.size, 0, none⟩ 1 1 X.cells rfl (fun j y hj => by rw [add_lit', Nat.zero_add]; rw [hX] at hj; rcases j with _ | _ | _ | _ | _ | j <;> simp [Rec.cells] at hj <;> subst hj <;> exact World.cell?_alloc_at _ _ _ _ rfl) (fun y hy => by rw [hX] at hy; simp [Rec.cells] at hy; rcases hy with rfl | rfl | rfl | rfl | rfl <;> rfl) (by unfold maxLen; omega) (by omega) (by simp; omega)
        have c23 : Chg (fun g => u4.ownBlock = some g) w2 w3 := ((Chg.refl (fun g => u4.ownBlock = some g) w2).alloc _).trans (G := fun g => u4.ownBlock = some g) ⟨a2.os, a2.tape, a2.output, a2.size, fun k hk hne => a2.block k hk (fun e => hne e.symm)⟩ (fun _ _ h => h)
        have hnb : ¬ u4.ownBlock = some w.heap.size := fun h => by have := (hown.lt _ h).1; omega
        have hcn3 : ∀ j, j < 4 → w3.cell? ⟨w.heap.size, j, none⟩ = some (.int .i64 ((ofS A j).length : Int)) := fun j hj => c23.cellAt (hcn2 j hj) hnb
        have hfz3 : ∀ j, w3.frozen? ⟨w.heap.size, j, none⟩ = false := fun j => (World.frozen?_of_block (w := w2) (c23.block w.heap.size (by omega) hnb)).trans (hfz2 j)
        have hcs3 := hcn3 sn hsn4
        have hfs3 := hfz3 sn
        have HX : Hid (X = ⟨sn, 0, (ofS A sn).length, NM, PV⟩) := hX
        clear hX
        go_wp2_with (at_builtin; refine Lib.wpList_append_run _ rfl _ _ 27 27 rfl _ _ rfl rfl v' w3 hrun ?_)
        have c34 : Chg (fun k => k = w.heap.size) w3 (w3.setCell ⟨w.heap.size, sn, none⟩ (.int .i64 (((ofS A sn).length : Int) + 1))) := Chg.setCell (p := ⟨w.heap.size, sn, none⟩) (Chg.refl (fun k => k = w.heap.size) w3) (fun _ => rfl) _
        have cw3 : Chg (fun _ => False) w w3 := (hc.trans c2 (fun _ _ h => h)).trans c23 (fun n hn h => by have := (hown.lt n h).1; omega)
        refine ⟨⟨i + 1, A ++ [X], by go_num, by omega, by omega, by simp [hA], by rw [HX.out]; exact hN.snoc (by omega) hsn4 hkn (by omega), ?_, fun j hj => ?_, fun j => by simpa using hfz3 j, cw3.step c34 (fun k hk => by rw [hk]; exact Nat.le_refl _), by have := c23.size; simp; omega⟩, by simp [intOf]; omega⟩
        · have hrow := c34.row a1 (fun k hk => .inl (by rw [hk]; omega))
          rw [recCells_append]
          simpa [recCells] using hrow
        · rw [ofS_snoc]
          by_cases e : j = sn
          · subst e
            rw [if_pos (by rw [HX.out]), World.cell?_setCell_same _ _ _ hcs3]
            simp
          · rw [if_neg (by rw [HX.out]; intro h; apply e; have h : (sn : Int) = j := h; omega), World.cell?_setCell_other _ _ _ _ (by intro h; simp at h <;> omega)]
            exact hcn3 j hj
      · have h9' : ¬ (i : Int) < 900 := by omega
        go_wp2_with fail
        go_ret
        exact ⟨_, rfl, A, row_lower hown (by omega), hN, hc⟩
    · have hil' : ¬ (i : Int) < (L.length : Int) := by omega
      go_wp2_with fail
      go_ret
      exact ⟨_, rfl, A, row_lower hown (by omega), hN, hc⟩

end Go.Proofs.YthedkdbgfdjlkaaGreat

/- Once: more, WALKED. -/
namespace Go.Proofs.YthedkdbgfdjlkaaGreat
set_option linter.unusedVariables false
set_option linter.unusedSimpArgs false
open Go.RowKit Go.Lib

/-- An order in memory: those that were taken, and the bases. -/
structure OrdAt (w : World) (ob lo : Nat) (vl : Value) (l : List Rec) (B : Nat → Int) : Prop where
  list : w.cell? ⟨ob, 0, none⟩ = some vl
  bs : ∀ j, j < 4 → w.cell? ⟨ob, 1 + j, none⟩ = some (.int .i64 (B j))
  fz : ∀ j, w.frozen? ⟨ob, j, none⟩ = false
  row : w.ownsRow lo 34 5 vl l.length (recCells l)
  ne : vl.ownBlock ≠ some ob

theorem OrdAt.chg {F : Nat → Prop} {w w' : World} {ob lo : Nat} {vl : Value} {l : List Rec} {B : Nat → Int} (h : OrdAt w ob lo vl l B) (hc : Chg F w w') (hb : ¬ F ob) (hv : ∀ k, vl.ownBlock = some k → ¬ F k) : OrdAt w' ob lo vl l B :=
  ⟨hc.cellAt h.list hb, fun j hj => hc.cellAt (h.bs j hj) hb, fun j => (World.frozen?_of_block (w := w) (hc.block ob (World.block_lt_of_cell? _ _ h.list) hb)).trans (h.fz j), hc.row' h.row hv, h.ne⟩

/-- Those of a session with a number. -/
def hits (all : List Rec) (i : Nat) (n : Int) : List Rec := all.filter (fun x => x.session == (i : Int) && x.number == n)

theorem filter_number : ∀ (A : List Rec) (k : Int) (n : Nat), (∀ (m : Nat) (x : Rec), A[m]? = some x → x.number = k + m) → A.filter (fun x => x.number == k + (n : Int)) = (A.drop n).take 1
  | [], k, n, _ => by simp
  | x :: r, k, 0, h => by
    have hx := h 0 x rfl
    have hr : r.filter (fun x => x.number == k + ((0 : Nat) : Int)) = [] := by
      refine List.filter_eq_nil_iff.2 (fun y hy => ?_)
      obtain ⟨m, hm, e⟩ := List.getElem_of_mem hy
      have := h (m + 1) y (by rw [List.getElem?_cons_succ, List.getElem?_eq_getElem hm, e])
      simp
      omega
    rw [List.filter_cons, hr]
    simp [hx]
  | x :: r, k, n + 1, h => by
    have hx := h 0 x rfl
    have ih := filter_number r (k + 1) n (fun m y hy => by
      have := h (m + 1) y (by rw [List.getElem?_cons_succ]; exact hy)
      omega)
    rw [List.filter_cons, if_neg (by simp; omega)]
    have e : k + ((n + 1 : Nat) : Int) = k + 1 + (n : Int) := by omega
    rw [e, ih]
    rfl

theorem hits_one {all : List Rec} (hN : Numbered all) (i n : Nat) : hits all i n = ((ofS all i).drop n).take 1 := by
  have h := filter_number (ofS all i) 0 n (fun m x hx => by rw [hN.num i m x hx]; omega)
  rw [← h]
  unfold hits ofS
  rw [List.filter_filter]
  congr 1
  funext x
  simp [Bool.and_comm]

theorem hits_take_next (all : List Rec) (i : Nat) (n : Int) (p : Nat) (x : Rec) (h : all[p]? = some x) : hits (all.take (p + 1)) i n = if x.session = i ∧ x.number = n then hits (all.take p) i n ++ [x] else hits (all.take p) i n := by
  obtain ⟨hl, e⟩ := List.getElem?_eq_some_iff.1 h
  unfold hits
  rw [List.take_succ_eq_append_getElem hl, e, List.filter_append]
  split
  · rename_i h; simp [h]
  · rename_i h
    have : ¬ (x.session == (i : Int) && x.number == n) = true := by simpa using h
    simp [List.filter_cons, this]

theorem drop_take_next {A : List Rec} {B n : Nat} (hB : B ≤ n) : (A.drop B).take (n - B) ++ (A.drop n).take 1 = (A.drop B).take (n + 1 - B) := by
  have e : n + 1 - B = (n - B) + 1 := by omega
  rw [e, List.take_add]
  congr 2
  rw [List.drop_drop]
  congr 1
  omega

/-- Where a list lies that was appended to. -/
def Wh (n : Nat) (v v' : Value) : Prop := v'.ownBlock = v.ownBlock ∨ ∀ k, v'.ownBlock = some k → n ≤ k

theorem Wh.refl (n : Nat) (v : Value) : Wh n v v := .inl rfl
theorem Wh.trans {n m : Nat} {a b c : Value} (h : Wh n a b) (h' : Wh m b c) (hn : n ≤ m) : Wh n a c := by
  rcases h' with h' | h'
  · rcases h with h | h
    · exact .inl (h'.trans h)
    · exact .inr fun k hk => h k (by rw [← h']; exact hk)
  · exact .inr fun k hk => Nat.le_trans hn (h' k hk)

theorem OrdAt.push {w w1 : World} {ob lo : Nat} {vl v' : Value} {l : List Rec} {B : Nat → Int} (h : OrdAt w ob lo vl l B) (o : Obj) (x : Rec) (hown : w1.ownsRow lo 34 5 v' (l.length + 1) (recCells l ++ x.cells)) (hg : (w.alloc o).drew.grownBy w1 vl.ownBlock) (hw : v'.ownBlock = vl.ownBlock ∨ ∀ k, v'.ownBlock = some k → (w.alloc o).drew.heap.size ≤ k) :
    OrdAt (w1.setCell ⟨ob, 0, none⟩ v') ob lo v' (l ++ [x]) B ∧ Wh w.heap.size vl v' ∧ Chg (fun k => k = ob ∨ vl.ownBlock = some k) w (w1.setCell ⟨ob, 0, none⟩ v') := by
  have hlt := World.block_lt_of_cell? _ _ h.list
  have e : (w.alloc o).drew.heap.size = w.heap.size + 1 := World.size_alloc _ _
  have c1 : Chg (fun k => vl.ownBlock = some k) w w1 := ((Chg.refl (fun k => vl.ownBlock = some k) w).alloc o).trans (G := fun k => vl.ownBlock = some k) ⟨hg.os, hg.tape, hg.output, hg.size, fun k hk hne' => hg.block k hk (fun h => hne' h.symm)⟩ (fun _ _ h => h)
  have c2 : Chg (fun k => k = ob) w1 (w1.setCell ⟨ob, 0, none⟩ v') := Chg.setCell (p := ⟨ob, 0, none⟩) (Chg.refl (fun k => k = ob) w1) (fun _ => rfl) _
  have hb : v'.ownBlock ≠ some ob := by
    rcases hw with hw | hw
    · rw [hw]; exact h.ne
    · intro hk; have := hw _ hk; simp only at hlt; omega
  refine ⟨⟨World.cell?_setCell_same _ _ _ (c1.cellAt h.list h.ne), fun j hj => (World.cell?_setCell_other _ _ _ _ (by simp)).trans (c1.cellAt (h.bs j hj) h.ne), fun j => ?_, ?_, hb⟩, ?_, ?_⟩
  · rw [World.frozen?_setCell]
    exact (World.frozen?_of_block (w := w) (c1.block ob hlt h.ne)).trans (h.fz j)
  · have := c2.row' hown (fun k hk hf => hb (by rw [← hf]; exact hk))
    rw [recCells_append]
    simpa [recCells] using this
  · rcases hw with hw | hw
    · exact .inl hw
    · exact .inr fun k hk => by have := hw k hk; omega
  · exact (c1.mono (fun k hk => .inr hk)).trans c2 (fun k _ hk => .inl hk)

theorem OrdAt.base {w : World} {ob lo : Nat} {vl : Value} {l : List Rec} {B : Nat → Int} (h : OrdAt w ob lo vl l B) {i : Nat} (hi : i < 4) (b : Int) : OrdAt (w.setCell ⟨ob, 1 + i, none⟩ (.int .i64 b)) ob lo vl l (fun j => if j = i then b else B j) := by
  have c : Chg (fun k => k = ob) w (w.setCell ⟨ob, 1 + i, none⟩ (.int .i64 b)) := Chg.setCell (p := ⟨ob, 1 + i, none⟩) (Chg.refl (fun k => k = ob) w) (fun _ => rfl) _
  refine ⟨(World.cell?_setCell_other _ _ _ _ (by simp <;> omega)).trans h.list, fun j hj => ?_, fun j => by rw [World.frozen?_setCell]; exact h.fz j, c.row' h.row (fun k hk hf => h.ne (by rw [← hf]; exact hk)), h.ne⟩
  by_cases e : j = i
  · subst e
    rw [World.cell?_setCell_same _ _ _ (h.bs j hj)]
    simp
  · rw [World.cell?_setCell_other _ _ _ _ (by simp <;> omega), h.bs j hj]
    simp [e]

set_option maxRecDepth 100000 in
set_option maxHeartbeats 4000000 in
theorem more_any {w : World} {ob lo la : Nat} {vl va : Value} {ol all : List Rec} {B : Nat → Int} {i : Nat} {b : Int} (hi : i < 4) (hO : OrdAt w ob lo vl ol B) (ra : w.ownsRow la 34 5 va all.length (recCells all)) (hae : va.ownBlock ≠ some ob) (hsep : ∀ g, va.ownBlock = some g → vl.ownBlock ≠ some g) (hlo : lo ≤ w.heap.size)
    (hN : Numbered all) (h0 : 0 ≤ B i) (h1 : B i ≤ b) (h2 : b ≤ B i + 4) (h3 : b ≤ (ofS all i).length) (hol : ol.length ≤ 900) :
    Calls Tryz.prog 12 #[.pointer (some ⟨ob, 0, none⟩), va, .int .i64 i, .int .i64 b] w fun e w' => e = .returned (.bool true) ∧ ∃ vl', OrdAt w' ob lo vl' (ol ++ ((ofS all i).drop (B i).toNat).take (b - B i).toNat) (fun j => if j = i then b else B j) ∧ Wh w.heap.size vl vl' ∧ Chg (fun k => k = ob ∨ vl.ownBlock = some k) w w' := by
  obtain ⟨i0, hi0, hz0, hz1, hz2⟩ := info_parts Tryz.infoR
  obtain ⟨pa, ca, rfl⟩ := row_any ra
  have hi' : (i : Int) < 4 := by omega
  have hBi := hO.bs i hi
  have hsl : (ofS all i).length ≤ all.length := List.length_filter_le _ _
  have hfew := hN.few
  obtain ⟨Bn, hBn⟩ : ∃ Bn : Nat, B i = Bn := ⟨(B i).toNat, by omega⟩
  rw [hBn] at hBi h0 h1 h2
  have HBN : Hid (B i = Bn) := hBn
  have hb0 : 0 ≤ b ∧ b ≤ 1000 := by omega
  clear hBn
  go_enter Tryz.func12, Tryz.ntmps12
  go_wp2_with fail
  go_loopw [9, 10, 11] (fun sn _ _ wr => ∃ (n : Nat) (vl' : Value), sn = .int .i64 n ∧ Bn ≤ n ∧ (n : Int) ≤ b ∧ OrdAt wr ob lo vl' (ol ++ ((ofS all i).drop Bn).take (n - Bn)) B ∧ Wh w.heap.size vl vl' ∧ Chg (fun k => k = ob ∨ vl.ownBlock = some k) w wr) (fun sn _ _ _ => b.toNat - (intOf sn).toNat)
  case atStart => exact ⟨Bn, vl, rfl, by omega, by omega, by simpa using hO, Wh.refl _ _, Chg.refl _ _⟩
  case round =>
    obtain ⟨n, v1, rfl, hn1, hn2, hO1, hW1, hc1⟩ := hrel
    clear hBi
    by_cases hnb : (n : Int) < b
    · obtain ⟨ln, hln⟩ : ∃ ln, ln = ol ++ ((ofS all i).drop Bn).take (n - Bn) := ⟨_, rfl⟩
      have hll : ln.length ≤ 910 := by
        rw [hln]
        simp only [List.length_append, List.length_take, List.length_drop]
        omega
      rw [← hln] at hO1
      go_wp2_with fail
      go_loopw [10, 11] (fun sf sp wq => ∃ (p : Nat) (f : Bool) (v2 : Value), sp = .int .i64 p ∧ p ≤ all.length ∧ sf = .bool f ∧ Hid (f = decide (0 < (hits (all.take p) i n).length)) ∧ OrdAt wq ob lo v2 (ln ++ hits (all.take p) i n) B ∧ Wh w.heap.size vl v2 ∧ Chg (fun k => k = ob ∨ vl.ownBlock = some k) w wq) (fun _ sp _ => all.length - (intOf sp).toNat)
      case atStart => exact ⟨0, false, v1, rfl, by omega, rfl, (show _ = _ by simp [hits]), by simpa [hits] using hO1, hW1, hc1⟩
      case round =>
        obtain ⟨p, f, v2, rfl, hp, rfl, HF, hO2, hW2, hc2⟩ := hrel
        by_cases hpl : p < all.length
        · have hpl' : (p : Int) < (all.length : Int) := by omega
          obtain ⟨x, hx⟩ : ∃ x, all[p]? = some x := ⟨_, List.getElem?_eq_getElem hpl⟩
          have ra2 := hc2.row' ra (fun k hk hf => by
            rcases hf with hf | hf
            · exact hae (by rw [← hf]; exact hk)
            · exact hsep k hk hf)
          obtain ⟨ga, ca', hva, _, _, hcell⟩ := row_pos ra2 (by omega)
          simp only [Value.slice.injEq] at hva
          obtain ⟨rfl, _, rfl⟩ := hva
          have cx := recCells_at all p x hx
          have m0 := hcell _ _ cx.1
          have m1 := hcell _ _ cx.2.1
          have m2 := hcell _ _ cx.2.2.1
          have m3 := hcell _ _ cx.2.2.2.1
          have m4 := hcell _ _ cx.2.2.2.2
          have hnx := hits_take_next all i n p x hx
          have hhl : (hits (all.take p) i n).length ≤ 900 := by
            have : (hits (all.take p) i n).length ≤ (all.take p).length := List.length_filter_le _ _
            simp only [List.length_take] at this
            omega
          have HNX : Hid (hits (all.take (p + 1)) i n = if x.session = i ∧ x.number = n then hits (all.take p) i n ++ [x] else hits (all.take p) i n) := hnx
          clear hcell cx hnx
          by_cases hs : x.session = i
          · rw [hs] at m0
            by_cases hm : x.number = n
            · rw [hm] at m2
              have HNX' : Hid (hits (all.take (p + 1)) i n = hits (all.take p) i n ++ [x]) := by show _ = _; rw [HNX.out, if_pos ⟨hs, hm⟩]
              obtain ⟨l2, hl2⟩ : ∃ l2, l2 = ln ++ hits (all.take p) i n := ⟨_, rfl⟩
              have HL2 : Hid (l2 ++ [x] = ln ++ hits (all.take (p + 1)) i n) := by show _ = _; rw [hl2, HNX'.out, List.append_assoc]
              have hl2l : l2.length ≤ 2000 := by rw [hl2, List.length_append]; omega
              rw [← hl2] at hO2
              have HX : Hid (x.cells = [.int .i64 i, .int .i64 x.epoch, .int .i64 n, .string x.key, .int .i64 x.value]) := by show _ = _; unfold Rec.cells; rw [hs, hm]
              have HF' : Hid (true = decide (0 < (hits (all.take (p + 1)) i n).length)) := by show _ = _; rw [HNX'.out]; simp
              clear HNX hl2 hs hm HNX' HF
              obtain ⟨q, cap, rfl⟩ := row_any hO2.row
              have s1 : Hid (∀ j u, x.cells[j]? = some u → ((wr.alloc (.cells #[.int .i64 i, .int .i64 x.epoch, .int .i64 n, .string x.key, .int .i64 x.value] 34)).drew).cell? ((⟨wr.heap.size, 0, none⟩ : Addr).add j) = some u) := by
                intro j u hj
                rw [HX.out] at hj
                match j, hj with
                | 0, hj => simp at hj; subst hj; simp [Addr.add]
                | 1, hj => simp at hj; subst hj; simp [Addr.add]
                | 2, hj => simp at hj; subst hj; simp [Addr.add]
                | 3, hj => simp at hj; subst hj; simp [Addr.add]
                | 4, hj => simp at hj; subst hj; simp [Addr.add]
                | k + 5, hj => simp at hj
              have s2 : Hid (∀ u ∈ x.cells, u.oneCell' = true) := by
                intro u hu
                simp [Rec.cells] at hu
                rcases hu with rfl | rfl | rfl | rfl | rfl <;> rfl
              have s3 : Hid (l2.length + 1 ≤ maxLen) := by show _ ≤ maxLen; unfold maxLen; omega
              have s4 : Hid ((l2.length + 1) * 48 ≤ 140737488355328) := by show _ ≤ _; omega
              have s5 : Hid (lo ≤ ((wr.alloc (.cells #[.int .i64 i, .int .i64 x.epoch, .int .i64 n, .string x.key, .int .i64 x.value] 34)).drew).heap.size) := by show lo ≤ (wr.alloc _).heap.size; rw [World.size_alloc]; have := hc2.size; omega
              have s6 : Hid (∀ (v' : Value) (w1 : World), w1.ownsRow lo 34 5 v' (l2.length + 1) (recCells l2 ++ x.cells) → (wr.alloc (.cells #[.int .i64 i, .int .i64 x.epoch, .int .i64 n, .string x.key, .int .i64 x.value] 34)).drew.grownBy w1 (Value.slice q l2.length cap).ownBlock → (v'.ownBlock = (Value.slice q l2.length cap).ownBlock ∨ ∀ k, v'.ownBlock = some k → (wr.alloc (.cells #[.int .i64 i, .int .i64 x.epoch, .int .i64 n, .string x.key, .int .i64 x.value] 34)).drew.heap.size ≤ k) → w1.cell? ⟨ob, 0, none⟩ = some (.slice q l2.length cap) ∧ w1.frozen? ⟨ob, 0, none⟩ = false ∧ Hid (OrdAt (w1.setCell ⟨ob, 0, none⟩ v') ob lo v' (l2 ++ [x]) B ∧ Wh wr.heap.size (.slice q l2.length cap) v' ∧ Chg (fun k => k = ob ∨ (Value.slice q l2.length cap).ownBlock = some k) wr (w1.setCell ⟨ob, 0, none⟩ v'))) := by
                intro v' w1 hown hg hw
                have hlt := World.block_lt_of_cell? _ _ hO2.list
                have hb := hg.block ob (by show ob < (wr.alloc _).heap.size; rw [World.size_alloc]; simp only at hlt; omega) (fun h => hO2.ne h.symm)
                have hb' : w1.heap[ob]? = wr.heap[ob]? := hb.trans (Below.heap_alloc _ _ _ hlt)
                exact ⟨(World.cell?_of_block (w := wr) hb').trans hO2.list, (World.frozen?_of_block (w := wr) hb').trans (hO2.fz 0), hO2.push _ x hown hg hw⟩
              have hpa : (wr.alloc (.cells #[.int .i64 i, .int .i64 x.epoch, .int .i64 n, .string x.key, .int .i64 x.value] 34)).cell? ⟨ob, 0, none⟩ = some (.slice q l2.length cap) := (World.cell?_alloc_lt wr _ _ (World.block_lt_of_cell? _ _ hO2.list)).trans hO2.list
              have hp0 := hO2.list
              go_wp2_with fail
              go_region_law (refine step_append_own rfl (.tmp 68) (.tmp 73) 27 rfl lo 34 i0 _ 5 48 Tryz.underlying27 hi0 hz0 hz1 hz2 rfl (by decide) _ l2.length (recCells l2) (by simp [Act.eval, Act.put]) (hO2.row.alloc _) ⟨wr.heap.size, 0, none⟩ 1 1 x.cells (by simp [Act.eval, Act.put]) rfl s1.out s2.out s3.out s4.out s5.out ?_; intro v' w1 hown hgrow hwhere; obtain ⟨q', cap', rfl⟩ := row_any hown; obtain ⟨hp1, hz1', hh⟩ := s6.out (.slice q' (l2.length + 1) cap') w1 hown hgrow hwhere)
              all_goals
                go_wp2_with fail
                exact ⟨⟨p + 1, true, .slice q' (l2.length + 1) cap', by go_num, by omega, rfl, HF', by rw [← HL2.out]; exact hh.out.1, hW2.trans hh.out.2.1 hc2.size, hc2.trans hh.out.2.2 (fun k hk h => by
                  rcases h with h | h
                  · exact .inl h
                  · rcases hW2 with h2 | h2
                    · exact .inr (by rw [← h2]; exact h)
                    · have := h2 k h; omega)⟩, by simp [intOf]; omega⟩
            · have hm' : (x.number == (n : Int)) = false := by simpa using hm
              have HNX' : Hid (hits (all.take (p + 1)) i n = hits (all.take p) i n) := by show _ = _; rw [HNX.out, if_neg (fun h => hm h.2)]
              clear HNX
              go_wp2_with fail
              exact ⟨⟨p + 1, f, v2, by go_num, by omega, rfl, (show _ = _ by rw [HNX'.out]; exact HF.out), by rw [HNX'.out]; exact hO2, hW2, hc2⟩, by simp [intOf]; omega⟩
          · have hs' : (x.session == (i : Int)) = false := by simpa using hs
            have HNX' : Hid (hits (all.take (p + 1)) i n = hits (all.take p) i n) := by show _ = _; rw [HNX.out, if_neg (fun h => hs h.1)]
            clear HNX
            go_wp2_with fail
            exact ⟨⟨p + 1, f, v2, by go_num, by omega, rfl, (show _ = _ by rw [HNX'.out]; exact HF.out), by rw [HNX'.out]; exact hO2, hW2, hc2⟩, by simp [intOf]; omega⟩
        · have hpl' : ¬ (p : Int) < (all.length : Int) := by omega
          have hall : all.take p = all := List.take_of_length_le (by omega)
          have hone := hits_one hN i n
          have hlt : n < (ofS all i).length := by omega
          rw [hall, hone] at HF hO2
          have hf : f = true := by
            rw [HF.out]
            simp
            omega
          rw [hf]
          have HL : Hid (ln ++ ((ofS all i).drop n).take 1 = ol ++ ((ofS all i).drop Bn).take (n + 1 - Bn)) := by
            show _ = _
            rw [hln, List.append_assoc, drop_take_next hn1]
          clear HF hone hall hf
          go_wp2_with fail
          exact ⟨⟨n + 1, v2, by go_num, by omega, by omega, by rw [← HL.out]; exact hO2, hW2, hc2⟩, by simp [intOf]; omega⟩
    · have hnb' : (n : Int) = b := by omega
      have hc0 := hO1.bs i hi
      have hf0 := hO1.fz (1 + i)
      have hlt := World.block_lt_of_cell? _ _ hO1.list
      have HE : Hid (ol ++ ((ofS all i).drop (B i).toNat).take (b - B i).toNat = ol ++ ((ofS all i).drop Bn).take (n - Bn)) := by
        show _ = _
        rw [HBN.out, ← hnb']
        congr 2
        omega
      go_wp2_with fail
      go_ret
      refine ⟨rfl, v1, ?_, hW1, hc1.setCell (p := ⟨ob, 1 + i, none⟩) (fun _ => .inl rfl) _⟩
      rw [HE.out]
      exact hO1.base hi b

end Go.Proofs.YthedkdbgfdjlkaaGreat

/- Once: sums, WALKED. -/
namespace Go.Proofs.YthedkdbgfdjlkaaGreat
set_option linter.unusedVariables false
set_option linter.unusedSimpArgs false
open Go.RowKit Go.Lib

variable {R : World → Addr → Option St → (Nat → Prop) → Prop}

theorem OInv.short {all ol : List Rec} {s : St} (h : OInv all ol s) (hn : Numbered all) : ol.length ≤ 900 := by
  have h1 := h.total hn
  have h2 := h.whole
  have h3 := (waits_ge (ls := s.lanes)).1
  have h4 := hn.few
  unfold St.records at h1
  omega

set_option maxRecDepth 100000 in
set_option maxHeartbeats 4000000 in
theorem sums_any (H : Api R) {w : World} {a : Addr} {s : St} {F : Nat → Prop} (hR : R w a (some s) F) {lo : Nat} {vl : Value} {ol all : List Rec} (row : w.ownsRow lo 34 5 vl ol.length (recCells ol)) (hsep : ∀ k, vl.ownBlock = some k → ¬ F k) (hI : OInv all ol s) (hN : Numbered all) :
    Calls Tryz.prog 13 #[.pointer (some a), vl] w fun e w' => e = .returned (.bool true) ∧ R w' a (some s) F ∧ Chg F w w' := by
  obtain ⟨pl, cl, rfl⟩ := row_any row
  have hol := hI.short hN
  have hf := H.fine hR
  have hsm := hf.small
  go_enter Tryz.func13, Tryz.ntmps13
  go_wp2_with fail
  refine (H.state hR).mono ?_
  rintro _ w3 ⟨vs, vk, rfl, hs3, hR3, c3⟩
  simp only [errno?, state?] at hs3 ⊢
  obtain ⟨us, hu1, hu2, hu3⟩ := hs3.sess
  have hk3 := hs3.keys
  obtain ⟨ps, cs, rfl⟩ := row_any hu2
  obtain ⟨pk, ck, rfl⟩ := row_any hk3
  clear hu1 hu2 hu3
  obtain ⟨W3, hW3⟩ : ∃ W3, W3 = w3.alloc (Obj.cells #[.slice ps s.lanes.length cs, .slice pk s.keys.length ck] 49) := ⟨_, rfl⟩
  have c33 : Chg (fun _ => False) w3 W3 := by rw [hW3]; exact (Chg.refl _ w3).alloc _
  have b1 : W3.cell? ⟨w3.heap.size, 1, none⟩ = some (.slice pk s.keys.length ck) := by rw [hW3]; exact World.cell?_alloc_at _ _ _ _ rfl
  have hk4 := c33.row' hk3 (fun _ _ h => h)
  have row4 := c33.row' (c3.row' row hsep) (fun _ _ h => h)
  have hR4 := H.keep hR3 c33
  have cw : Chg F w W3 := c3.trans c33 (fun _ _ h => h.elim)
  have hup := counts_upto (ks := s.keys) (fun k hk => (hf.key k hk).1)
  go_wp2_with fail
  rw [← hW3]
  clear hW3 hs3 hk3 c3 c33 hR3 hR row
  go_loopw [7, 8, 9, 10, 11] (fun sn si _ _ _ wr => ∃ (j : Nat) (m : Int), si = .int .i64 j ∧ j ≤ s.keys.length ∧ sn = .int .i64 m ∧ Hid (m = counts (s.keys.take j)) ∧ Chg (fun _ => False) W3 wr) (fun _ si _ _ _ _ => s.keys.length - (intOf si).toNat)
  case atStart => exact ⟨0, 0, rfl, by omega, rfl, (show _ = _ by simp [counts]), Chg.refl _ _⟩
  case round =>
    obtain ⟨j, m, rfl, hj, rfl, HM, hcj⟩ := hrel
    have e1 := hcj.cellAt b1 id
    by_cases hjl : j < s.keys.length
    · obtain ⟨q, hq⟩ : ∃ q, s.keys[j]? = some q := ⟨_, List.getElem?_eq_getElem hjl⟩
      have hqm := List.mem_of_getElem? hq
      have cx := keyCells_at s.keys j q hq
      obtain ⟨gk, capk, hvk, _, _, hck⟩ := row_pos hk4 (by omega)
      simp only [Value.slice.injEq] at hvk
      obtain ⟨rfl, _, rfl⟩ := hvk
      have m0 := hcj.cellAt (hck _ _ cx.1) id
      have m1 := hcj.cellAt (hck _ _ cx.2.1) id
      have m2 := hcj.cellAt (hck _ _ cx.2.2.1) id
      have m3 := hcj.cellAt (hck _ _ cx.2.2.2) id
      obtain ⟨kn, kc, kf⟩ := hI.key hN hqm
      have hq1 := (hf.key q hqm).1
      have hjl' : (j : Int) < (s.keys.length : Int) := by omega
      have hnx := counts_next s.keys j q hq
      have hn1 := hup j
      have hn2 := hup (j + 1)
      have hmx : 0 ≤ m ∧ m ≤ 1000 ∧ 0 ≤ m + q.count ∧ m + q.count ≤ 1000 := by rw [HM.out]; omega
      have HNX : Hid (counts (s.keys.take (j + 1)) = counts (s.keys.take j) + q.count) := hnx
      have KC : Hid (q.count = (tally q.name ol).1) := kc
      have KF : Hid (q.fold = (tally q.name ol).2) := kf
      clear hck cx hnx hn1 hn2 kc kf
      obtain ⟨W5, hW5⟩ : ∃ W5, W5 = wr.alloc (Obj.cells #[.string q.name, .int .i64 q.count, .int .i64 q.fold, .int .i64 q.held] 57) := ⟨_, rfl⟩
      have c5 : Chg (fun _ => False) wr W5 := by rw [hW5]; exact (Chg.refl _ wr).alloc _
      have z0 : W5.cell? ⟨wr.heap.size, 0, none⟩ = some (.string q.name) := by rw [hW5]; exact World.cell?_alloc_at _ _ _ _ rfl
      have z1 : W5.cell? ⟨wr.heap.size, 1, none⟩ = some (.int .i64 q.count) := by rw [hW5]; exact World.cell?_alloc_at _ _ _ _ rfl
      have z2 : W5.cell? ⟨wr.heap.size, 2, none⟩ = some (.int .i64 q.fold) := by rw [hW5]; exact World.cell?_alloc_at _ _ _ _ rfl
      have row5 := c5.row' (hcj.row' row4 (fun _ _ h => h)) (fun _ _ h => h)
      go_wp2_with fail
      rw [← hW5]
      clear hW5 m0 m1 m2 m3 e1
      go_loopw [10, 11] (fun sc sp wq => ∃ (p : Nat) (c : Int), sp = .int .i64 p ∧ p ≤ ol.length ∧ sc = .int .i64 c ∧ Hid (c = (tally q.name (ol.take p)).1) ∧ Chg (fun _ => False) W5 wq) (fun _ sp _ => ol.length - (intOf sp).toNat)
      case atStart => exact ⟨0, 0, rfl, by omega, rfl, (show _ = _ from rfl), Chg.refl _ _⟩
      case round =>
        obtain ⟨p, c, rfl, hp, rfl, HC, hcp⟩ := hrel
        have y0 := hcp.cellAt z0 id
        have y1 := hcp.cellAt z1 id
        have y2 := hcp.cellAt z2 id
        have hle := tally_take_le q.name ol p
        rw [← HC.out] at hle
        have hcr : 0 ≤ c ∧ c ≤ 900 := by omega
        clear hle
        by_cases hpl : p < ol.length
        · obtain ⟨x, hx⟩ : ∃ x, ol[p]? = some x := ⟨_, List.getElem?_eq_getElem hpl⟩
          obtain ⟨gl, capl, hvl, _, _, hcl⟩ := row_pos row5 (by omega)
          simp only [Value.slice.injEq] at hvl
          obtain ⟨rfl, _, rfl⟩ := hvl
          have x3 := hcp.cellAt (hcl _ _ (recCells_at ol p x hx).2.2.2.1) id
          have hpl' : (p : Int) < (ol.length : Int) := by omega
          have hnx := tally_take_next q.name ol p x hx
          clear hcl
          by_cases hke : x.key = q.name
          · have HC' : Hid (c + 1 = (tally q.name (ol.take (p + 1))).1) := by
              show _ = _
              rw [hnx, HC.out]; unfold tallyOne; rw [if_pos hke]
            rw [hke] at x3
            clear hnx hke HC
            go_wp2_with fail
            go_quiet (fail)
            go_wp2_with fail
            exact ⟨⟨p + 1, c + 1, by go_num, by omega, rfl, HC', hcp.trans (((Quiet.refl _).drewN _).chg _) (fun _ _ h => h)⟩, by simp [intOf]; omega⟩
          · have HC' : Hid (c = (tally q.name (ol.take (p + 1))).1) := by
              show _ = _
              rw [hnx, HC.out]; unfold tallyOne; rw [if_neg hke]
            have hkn : (x.key.toList == q.name.toList) = false := by
              rw [beq_eq_false_iff_ne]
              intro e
              rw [ByteArray.toList_eq, ByteArray.toList_eq] at e
              exact hke (ByteArray.ext (Array.toList_inj.1 e))
            clear hnx hke HC
            go_wp2_with fail
            go_quiet (fail)
            go_wp2_with fail
            exact ⟨⟨p + 1, c, by go_num, by omega, rfl, HC', hcp.trans (((Quiet.refl _).drewN _).chg _) (fun _ _ h => h)⟩, by simp [intOf]; omega⟩
        · have hpl' : ¬ (p : Int) < (ol.length : Int) := by omega
          have hcq : c = q.count := by rw [HC.out, KC.out, List.take_of_length_le (by omega)]
          rw [hcq]
          clear HC hcq hcr
          have hkf : ∀ k, Calls Tryz.prog 22 #[.slice pl ol.length cl, .string q.name, .int .i64 q.count] (wr.drewN k) fun e w' => e = .returned (.int .i64 q.fold) ∧ w' = wr.drewN k := fun k => by
            have := kfold_any (key := q.name) ((hcp.trans (((Quiet.refl wr).drewN k).chg _) (fun _ _ h => h)).row' row5 (fun _ _ h => h)) kn hol (fun x hx => by have := hN.each x (hI.sub x hx); exact this.2.2.2.2)
            rw [← KC.out, ← KF.out] at this
            exact this
          have hq0 : (q.count == 0) = false := by simp; omega
          have hne : (q.name.toList == ([] : List UInt8)) = false := by
            rw [beq_eq_false_iff_ne, ByteArray.toList_eq]
            simp only [names4, List.mem_cons, List.not_mem_nil, or_false] at kn
            rcases kn with e | e | e | e <;> rw [e] <;> simp [kC, kS, kL, kM]
          go_wp2_with fail
          go_quiet (first | (go_at_call 22; refine Calls.quiet_of_same (hkf _)))
          go_wp2_with fail
          exact ⟨⟨j + 1, m + q.count, by go_num, by omega, rfl, (show _ = _ by rw [HNX.out, HM.out]), (hcj.trans (c5.trans hcp (fun _ _ h => h)) (fun _ _ h => h)).trans (((Quiet.refl _).drewN _).chg _) (fun _ _ h => h)⟩, by simp [intOf]; omega⟩
    · have hjl' : ¬ (j : Int) < (s.keys.length : Int) := by omega
      have hm : m = (ol.length : Int) := by rw [HM.out, List.take_of_length_le (by omega), hI.whole]
      rw [hm]
      clear HM hm
      go_wp2_with fail
      go_ret
      exact ⟨by simp, H.keep hR4 hcj, cw.trans hcj (fun _ _ h => h.elim)⟩

end Go.Proofs.YthedkdbgfdjlkaaGreat

/- Once: what holds from call to call. -/
namespace Go.Proofs.YthedkdbgfdjlkaaGreat
set_option linter.unusedVariables false
set_option linter.unusedSimpArgs false
open Go.RowKit Go.Lib

variable {R : World → Addr → Option St → (Nat → Prop) → Prop}

/-- The relay, the order and the records beside one another. -/
structure Half (R : World → Addr → Option St → (Nat → Prop) → Prop) (w : World) (a : Addr) (ob lo : Nat) (va vl : Value) (all ol : List Rec) (s : St) (F : Nat → Prop) (B : Nat → Int) : Prop where
  rel : R w a (some s) F
  ord : OrdAt w ob lo vl ol B
  row : w.ownsRow lo 34 5 va all.length (recCells all)
  fo : ¬ F ob
  fl : ∀ k, vl.ownBlock = some k → ¬ F k
  fa : ∀ k, va.ownBlock = some k → ¬ F k
  ao : va.ownBlock ≠ some ob
  sep : ∀ g, va.ownBlock = some g → vl.ownBlock ≠ some g
  lo : lo ≤ w.heap.size

theorem Half.keep (H : Api R) {w w' : World} {a : Addr} {ob lo : Nat} {va vl : Value} {all ol : List Rec} {s : St} {F : Nat → Prop} {B : Nat → Int} (h : Half R w a ob lo va vl all ol s F B) (c : Chg (fun _ => False) w w') : Half R w' a ob lo va vl all ol s F B :=
  ⟨H.keep h.rel c, h.ord.chg c id (fun _ _ h => h), c.row' h.row (fun _ _ h => h), h.fo, h.fl, h.fa, h.ao, h.sep, Nat.le_trans h.lo c.size⟩

theorem Half.accept {w w' : World} {a : Addr} {ob lo : Nat} {va vl : Value} {all ol : List Rec} {s s' : St} {F F' : Nat → Prop} {B : Nat → Int} (h : Half R w a ob lo va vl all ol s F B) (c : Chg F w w') (hF : ∀ k, F' k → F k ∨ w.heap.size ≤ k) (hR : R w' a (some s') F') : Half R w' a ob lo va vl all ol s' F' B := by
  have hob : ob < w.heap.size := World.block_lt_of_cell? _ _ h.ord.list
  refine ⟨hR, h.ord.chg c h.fo h.fl, c.row' h.row h.fa, fun hk => ?_, fun k hk hf => ?_, fun k hk hf => ?_, h.ao, h.sep, Nat.le_trans h.lo c.size⟩
  · rcases hF _ hk with e | e
    · exact h.fo e
    · omega
  · rcases hF _ hf with e | e
    · exact h.fl k hk e
    · have := (h.ord.row.lt k hk).2; omega
  · rcases hF _ hf with e | e
    · exact h.fa k hk e
    · have := (h.row.lt k hk).2; omega

theorem Half.more (H : Api R) {w w' : World} {a : Addr} {ob lo : Nat} {va vl vl' : Value} {all ol ol' : List Rec} {s : St} {F : Nat → Prop} {B B' : Nat → Int} (h : Half R w a ob lo va vl all ol s F B) (ho : OrdAt w' ob lo vl' ol' B') (hW : Wh w.heap.size vl vl') (c : Chg (fun k => k = ob ∨ vl.ownBlock = some k) w w') : Half R w' a ob lo va vl' all ol' s F B' := by
  refine ⟨H.stable h.rel (fun k hk => c.block k (H.lt h.rel hk) (fun e => ?_)), ho, c.row' h.row (fun k hk e => ?_), h.fo, fun k hk hf => ?_, h.fa, h.ao, fun g hg hv => ?_, Nat.le_trans h.lo c.size⟩
  · rcases e with e | e
    · exact h.fo (by rw [← e]; exact hk)
    · exact h.fl k e hk
  · rcases e with e | e
    · exact h.ao (by rw [← e]; exact hk)
    · exact h.sep k hk e
  · rcases hW with e | e
    · exact h.fl k (by rw [← e]; exact hk) hf
    · have := e k hk
      have := H.lt h.rel hf
      omega
  · rcases hW with e | e
    · exact h.sep g hg (by rw [← e]; exact hv)
    · have := e g hv
      have := (h.row.lt g hg).2
      omega

/-- What is young stays so. -/
theorem young_more {w0 w w' : World} {ob : Nat} {vl : Value} {ol : List Rec} {B : Nat → Int} (h : Chg (fun _ => False) w0 w) (ho : OrdAt w ob w0.heap.size vl ol B) (hob : w0.heap.size ≤ ob) (c : Chg (fun k => k = ob ∨ vl.ownBlock = some k) w w') : Chg (fun _ => False) w0 w' :=
  h.step c (fun k hk => by
    rcases hk with e | e
    · omega
    · exact (ho.row.lt k e).1)

def basesOf (s : St) (B : Nat → Int) : Prop := ∀ (j : Nat) (l : Ln), s.lanes[j]? = some l → l.base = B j

theorem Took.bases {all ol : List Rec} {s : St} {i : Nat} {l : Ln} {x : Rec} {b : Int} (h : Took all ol s i l x b) {B : Nat → Int} (hB : basesOf s B) : basesOf (accept s x).2 (fun j => if j = i then b else B j) := by
  intro j l' hl'
  by_cases e : j = i
  · subst e
    obtain ⟨l2, h1, h2⟩ := h.here
    rw [h1] at hl'
    have := Option.some.inj hl'
    subst this
    simp [h2]
  · rw [h.there j e] at hl'
    simp [e]
    exact hB j l' hl'

theorem numbered_at {all : List Rec} (hN : Numbered all) {p : Nat} {x : Rec} (hx : all[p]? = some x) {i : Nat} (hi : x.session = i) : x.number = (ofS (all.take p) i).length := by
  obtain ⟨hl, e⟩ := List.getElem?_eq_some_iff.1 hx
  have h1 : all = all.take p ++ x :: all.drop (p + 1) := by
    conv => lhs; rw [← List.take_append_drop p all]
    rw [List.drop_eq_getElem_cons hl, e]
  refine hN.num i _ x ?_
  conv => lhs; arg 1; rw [h1]
  unfold ofS
  rw [List.filter_append, List.getElem?_append_right (Nat.le_refl _), Nat.sub_self, List.filter_cons, if_pos (by simp [hi])]
  rfl

theorem ofS_take_next {all : List Rec} {p : Nat} {x : Rec} (hx : all[p]? = some x) (j : Nat) : (ofS (all.take (p + 1)) j).length = (ofS (all.take p) j).length + if x.session = j then 1 else 0 := by
  obtain ⟨hl, e⟩ := List.getElem?_eq_some_iff.1 hx
  rw [List.take_succ_eq_append_getElem hl, e, ofS_snoc]
  split <;> simp

theorem basesOf_init : basesOf St.init (fun _ => 0) := by
  intro j l h
  have := List.mem_of_getElem? h
  simp [St.init] at this
  subst this
  rfl

/-- A list of numbers in memory. -/
structure IntsAt (w : World) (v : Value) (P : List Int) : Prop where
  val : ∃ p cap, v = .slice p P.length cap
  len : P.length ≤ 9223372036854775807
  cells : ∀ i x, P[i]? = some x → ∃ sb so cap, v = .slice (some ⟨sb, so, none⟩) P.length cap ∧ w.cell? ⟨sb, so + i, none⟩ = some (.int .i64 x)
  fits : ∀ x ∈ P, inInt x

end Go.Proofs.YthedkdbgfdjlkaaGreat

/- LISTS OF SENT ONES AND OF NUMBERS AS ARGUMENTS, OPENED. -/
namespace Go.Proofs.YthedkdbgfdjlkaaGreat
set_option linter.unusedVariables false
set_option linter.unusedSimpArgs false
open Go.ChangeShapes Go.WideShapes Go.ChangeAt Go.RowKit Go.Deep

theorem Tryz.cellsSent : Tryz.prog.cellsOf 98 = 3 := by kernel_rfl

theorem len3 {α : Type} {l : List α} (h : l.length = 3) : ∃ a b c, l = [a, b, c] := by
  match l, h with
  | [a, b, c], _ => exact ⟨a, b, c, rfl⟩

section
variable {H : Type} {enc : TypeId × Value → H} {W : World} {sp : Nat → Bool} {held : Bool} {base : Nat}

theorem open_sent {n : Nat} {cs : List Value} {y : DataW H × List MemPlace} (h : DataW.trod enc Tryz.prog W base sp held n 98 cs = some y) :
    ∃ x : Snt, cs = [.int .i64 x.session, .int .i64 x.key, .int .i64 x.value] ∧ inInt x.session ∧ inInt x.key ∧ inInt x.value := by
  obtain ⟨xs, k, _, _, hlen, hxl, hf⟩ := DataW.trod_struct Tryz.underlying98 h
  rw [Tryz.cellsSent] at hlen
  obtain ⟨y0, y1, y2, rfl⟩ := len3 hxl
  obtain ⟨c0, c1, c2, rfl⟩ := len3 hlen
  · clear hxl hlen h
    have g0 := hf 0 _ rfl
    have g1 := hf 1 _ rfl
    have g2 := hf 2 _ rfl
    simp [Tryz.cellsInt] at g0 g1 g2
    obtain ⟨n0, e0, _, w0⟩ := DataW.trod_int Tryz.underlying3 g0
    obtain ⟨n1, e1, _, w1⟩ := DataW.trod_int Tryz.underlying3 g1
    obtain ⟨n2, e2, _, w2⟩ := DataW.trod_int Tryz.underlying3 g2
    simp at e0 e1 e2
    exact ⟨⟨n0, n1, n2⟩, by simp [e0, e1, e2], wf_inInt w0, wf_inInt w1, wf_inInt w2⟩

set_option maxRecDepth 100000 in
theorem open_sents {v : Value} {d : DataW H} {p : List MemPlace} (hv : Value.okWide Tryz.prog W .any base 22 v) (h : DataW.Trod enc Tryz.prog W 0 (fun _ => true) true 22 v d p) : ∃ L, SentAt W v L := by
  obtain ⟨a0, len0, cap0, rfl⟩ := okWide_slice Tryz.underlying22 hv
  obtain ⟨fuel, hf⟩ := h
  rcases open_slice Tryz.underlying22 hf with ⟨hc, _⟩ | ⟨a, len, cap, m, n, D, Pl, hcs, _, hl, hm, hmm, _, hall⟩
  · simp [Value.cells] at hc
    obtain ⟨rfl, rfl, rfl⟩ := hc
    exact ⟨[], ⟨none, 0, rfl⟩, by simp, fun i x hx => by simp at hx, by simp⟩
  · simp [Value.cells] at hcs
    obtain ⟨rfl, rfl, rfl⟩ := hcs
    simp only [if_true] at hmm
    subst hmm
    rw [Tryz.cellsSent] at hall
    have each : ∀ i, i < m → ∃ x : Snt, (∀ j u, [.int .i64 x.session, .int .i64 x.key, .int .i64 x.value][j]? = some u → W.cell? (a.add (i * 3 + j)) = some u) ∧ inInt x.session ∧ inInt x.key ∧ inInt x.value := fun i hi => by
      obtain ⟨cs', h1, h2⟩ := hall i hi
      obtain ⟨x, rfl, hx⟩ := open_sent h2
      obtain ⟨_, _, hcell⟩ := World.cells?_some h1
      refine ⟨x, fun j u hu => ?_, hx⟩
      have hj : j < 3 := by
        have := (List.getElem?_eq_some_iff.1 hu).1
        simpa using this
      have := hcell j hj
      rw [add_add] at this
      rw [this]; exact hu
    obtain ⟨f, hfx⟩ := @choose_lt Snt ⟨⟨0, 0, 0⟩⟩ _ _ each
    have hmx : m ≤ 9223372036854775807 := by unfold maxLen at hm; exact hm
    refine ⟨(List.range len0).map f, ⟨some a, m, by simp⟩, by simp; omega, fun i x hx => ?_, fun x hx => ?_⟩
    · have hi : i < len0 := by
        have := (List.getElem?_eq_some_iff.1 hx).1
        simpa using this
      have hxe : f i = x := by
        rw [List.getElem?_map, List.getElem?_range hi] at hx
        simpa using hx
      subst hxe
      obtain ⟨sb, so, spot⟩ := a
      have hc := (hfx i (by omega)).1
      have hspot : spot = none := by
        have := World.cell?_spot ((hfx 0 (by omega)).1 0 _ rfl)
        simpa [Addr.add] using this
      subst hspot
      have hq : ∀ j u, [.int .i64 (f i).session, .int .i64 (f i).key, .int .i64 (f i).value][j]? = some u → W.cell? ⟨sb, so + i * 3 + j, none⟩ = some u := fun j u hu => by
        have := hc j u hu
        rw [add_lit'] at this
        rw [show so + i * 3 + j = so + (i * 3 + j) by omega]
        exact this
      exact ⟨sb, so, m, by simp, hq 0 _ rfl, hq 1 _ rfl, hq 2 _ rfl⟩
    · obtain ⟨i, hi, rfl⟩ := List.mem_map.1 hx
      exact (hfx i (by have := List.mem_range.1 hi; omega)).2

set_option maxRecDepth 100000 in
theorem open_ints {v : Value} {d : DataW H} {p : List MemPlace} (hv : Value.okWide Tryz.prog W .any base 23 v) (h : DataW.Trod enc Tryz.prog W 0 (fun _ => true) true 23 v d p) : ∃ L, IntsAt W v L := by
  obtain ⟨a0, len0, cap0, rfl⟩ := okWide_slice Tryz.underlying23 hv
  obtain ⟨fuel, hf⟩ := h
  rcases open_slice Tryz.underlying23 hf with ⟨hc, _⟩ | ⟨a, len, cap, m, n, D, Pl, hcs, _, hl, hm, hmm, _, hall⟩
  · simp [Value.cells] at hc
    obtain ⟨rfl, rfl, rfl⟩ := hc
    exact ⟨[], ⟨none, 0, rfl⟩, by simp, fun i x hx => by simp at hx, by simp⟩
  · simp [Value.cells] at hcs
    obtain ⟨rfl, rfl, rfl⟩ := hcs
    simp only [if_true] at hmm
    subst hmm
    rw [Tryz.cellsInt] at hall
    have each : ∀ i, i < m → ∃ x : Int, W.cell? (a.add i) = some (.int .i64 x) ∧ inInt x := fun i hi => by
      obtain ⟨cs', h1, h2⟩ := hall i hi
      obtain ⟨x, rfl, _, hx⟩ := DataW.trod_int Tryz.underlying3 h2
      obtain ⟨_, _, hcell⟩ := World.cells?_some h1
      refine ⟨x, ?_, wf_inInt hx⟩
      have := hcell 0 (by omega)
      rw [add_add] at this
      simpa using this
    obtain ⟨f, hfx⟩ := @choose_lt Int ⟨0⟩ _ _ each
    have hmx : m ≤ 9223372036854775807 := by unfold maxLen at hm; exact hm
    refine ⟨(List.range len0).map f, ⟨some a, m, by simp⟩, by simp; omega, fun i x hx => ?_, fun x hx => ?_⟩
    · have hi : i < len0 := by
        have := (List.getElem?_eq_some_iff.1 hx).1
        simpa using this
      have hxe : f i = x := by
        rw [List.getElem?_map, List.getElem?_range hi] at hx
        simpa using hx
      subst hxe
      obtain ⟨sb, so, spot⟩ := a
      have hspot : spot = none := by
        have := World.cell?_spot (hfx 0 (by omega)).1
        simpa [Addr.add] using this
      subst hspot
      have hq := (hfx i (by omega)).1
      rw [add_lit'] at hq
      exact ⟨sb, so, m, by simp, hq⟩
    · obtain ⟨i, hi, rfl⟩ := List.mem_map.1 hx
      exact (hfx i (by have := List.mem_range.1 hi; omega)).2

end
end Go.Proofs.YthedkdbgfdjlkaaGreat

/- heap.Push, heap.down, the queue's Pop, heap.Pop, WALKED. -/
namespace Go.Proofs.YthedkdbgfdjlkaaGreat
set_option linter.unusedVariables false
set_option linter.unusedSimpArgs false
open Go.RowKit

set_option maxRecDepth 100000 in
set_option maxHeartbeats 400000 in
theorem heapPush_any (lo : Nat) (p : Addr) (v : Value) (n : Nat) (qs : List Wt) (x : Wt) (w : World) (hp : w.cell? p = some v) (hz : w.frozen? p = false) (hr : w.ownsRow lo 122 3 v n (wtCells qs)) (hl : qs.length = n) (hne : v.ownBlock ≠ some p.block) (hlo : lo ≤ w.heap.size) (hn : n < 1000) :
    Calls Tryz.prog 72 #[.iface 145 (.pointer (some p)), .iface 122 (.agg #[.int .i64 x.num, .string x.key, .int .i64 x.val])] w fun e w' => ∃ g cap, e = .returned (.tuple #[]) ∧
      QAt w' lo p g cap (n + 1) (upFn (n + 1) (qs ++ [x]) n) ∧ (v.ownBlock = some g ∨ w.heap.size ≤ g) ∧ Slots p.block (fun j => j = p.off) w w' ∧ Chg (fun k => k = p.block ∨ v.ownBlock = some k) w w' := by
  have hmP := m_push p
  go_enter Tryz.func72, Tryz.ntmps72
  go_wp2_with fail
  refine (qPush_any lo p v n qs x w hp hz hr hne hlo (by omega)).mono ?_
  rintro _ w1 ⟨v1, rfl, hp1, hr1, hw1, hs1, hc1⟩
  obtain ⟨g, cap, rfl, hg, hcap, hcells⟩ := row_pos hr1 (by omega)
  have hQ : QAt w1 lo p g cap (n + 1) (qs ++ [x]) := by
    refine ⟨hp1, by simp [hl], hr1, ?_⟩
    rcases hw1 with h | h
    · intro e; rw [← h] at hne; exact hne (by rw [e]; rfl)
    · have h1 := h g rfl
      have h2 := World.block_lt_of_cell? w p hp
      omega
  have hwhere : v.ownBlock = some g ∨ w.heap.size ≤ g := by
    rcases hw1 with h | h
    · exact .inl h.symm
    · exact .inr (h g rfl)
  have hmL := (m_len p w1).trans (load_then Tryz.prog 167 p w1 _ hp1)
  clear hr hcells hmP
  go_wp2_with fail
  refine (qLen_any _ _ _ _).mono ?_
  rintro _ w2 ⟨rfl, h2⟩
  subst h2
  go_wp2_with fail
  refine (up_any lo p g cap (n + 1) n (qs ++ [x]) _ hQ (by omega) (by omega)).mono ?_
  rintro _ w3 ⟨rfl, hQ3, hc3⟩
  go_wp2_with fail
  go_end0
  refine ⟨g, cap, rfl, hQ3, hwhere, hs1.trans (Slots.of_chg (fun _ => False) hc3 (World.block_lt_of_cell? _ _ hp1) hQ.ne) (fun _ h => h.elim), hc1.trans hc3 ?_⟩
  rintro k hk rfl
  rcases hwhere with h | h
  · exact .inr h
  · omega

/-- Go's down, over the first n. -/
def downFn : Nat → List Wt → Nat → Nat → List Wt
  | 0, l, _, _ => l
  | f + 1, l, i, n => if n ≤ 2 * i + 1 then l else
    if 2 * i + 2 < n ∧ numAt l (2 * i + 2) < numAt l (2 * i + 1) then
      (if numAt l (2 * i + 2) < numAt l i then downFn f (swapL l i (2 * i + 2)) (2 * i + 2) n else l)
    else (if numAt l (2 * i + 1) < numAt l i then downFn f (swapL l i (2 * i + 1)) (2 * i + 1) n else l)

/-- The round's end: Less(j, i), and the exchange. -/
def DownRel (lo : Nat) (p : Addr) (g cap N n : Nat) (qs : List Wt) (w : World) (si : Value) (wr : World) : Prop :=
  ∃ (i f : Nat) (l : List Wt), si = .int .i64 i ∧ i < N ∧ n - i ≤ f ∧ QAt wr lo p g cap N l ∧ Chg (fun k => k = g) w wr ∧ Hid (downFn n qs 0 n = downFn f l i n)

set_option maxRecDepth 100000 in
set_option maxHeartbeats 1000000 in
theorem down_any (lo : Nat) (p : Addr) (g cap N n : Nat) (qs : List Wt) (w : World) (hq : QAt w lo p g cap N qs) (hj : n < N) (hn : N ≤ 1000) :
    Calls Tryz.prog 111 #[.iface 145 (.pointer (some p)), .int .i64 0, .int .i64 n] w fun e w' => ∃ b, e = .returned (.bool b) ∧ QAt w' lo p g cap N (downFn n qs 0 n) ∧ Chg (fun k => k = g) w w' := by
  go_enter Tryz.func111, Tryz.ntmps111
  go_wp2
  go_loopw [7, 8, 9, 10] (fun si _ _ _ wr => DownRel lo p g cap N n qs w si wr) (fun si _ _ _ _ => n - (intOf si).toNat)
  case atStart => exact ⟨0, n, qs, rfl, by omega, by omega, hq, Chg.refl _ _, rfl⟩
  case round =>
    obtain ⟨i, f, l, rfl, hi, hf, hl, hc, HE⟩ := hrel
    by_cases c1 : n ≤ 2 * i + 1
    · have c1' : (n : Int) ≤ 2 * (i : Int) + 1 := by omega
      go_wp2_with fail
      go_ret
      refine ⟨_, rfl, ?_, hc⟩
      rw [HE.out]
      have : downFn f l i n = l := by cases f with
        | zero => rfl
        | succ f => simp [downFn, c1]
      rw [this]; exact hl
    · have c1' : 2 * (i : Int) + 1 < (n : Int) := by omega
      have c0 : ¬ 2 * (i : Int) + 1 < 0 := by omega
      have c1d : decide ((n : Int) ≤ 2 * (i : Int) + 1) = false := by simpa using c1'
      by_cases c2 : 2 * i + 2 < n
      · have c2' : 2 * (i : Int) + 1 + 1 < (n : Int) := by omega
        have hl1s := less_row hl.row hl.len (i := 2 * i + 2) (j := 2 * i + 1) (by omega) (by omega) hn
        rw [show ((2 * i + 2 : Nat) : Int) = 2 * (i : Int) + 1 + 1 by omega, show ((2 * i + 1 : Nat) : Int) = 2 * (i : Int) + 1 by omega] at hl1s
        have hv7 := hl.var
        have hm := fun W (h : W.cell? p = some (.slice (some ⟨g, 0, none⟩) N cap)) => (m_less p W).trans (load_then Tryz.prog 168 p W _ h)
        go_wp2_with fail
        refine hl1s.mono ?_
        rintro _ w7 ⟨rfl, hq7⟩
        clear hl1s hm hv7
        have hl7 := hl.quiet hq7
        have hc7 := hc.trans (hq7.chg (fun k => k = g)) (fun _ _ h => h)
        by_cases t1 : numAt l (2 * i + 2) < numAt l (2 * i + 1)
        · have hd1 : decide (numAt l (2 * i + 2) < numAt l (2 * i + 1)) = true := by simpa using t1
          rw [hd1]
          have hls := less_row hl7.row hl7.len (i := 2 * i + 2) (j := i) (by omega) hi hn
          rw [show ((2 * i + 2 : Nat) : Int) = 2 * (i : Int) + 1 + 1 by omega] at hls
          have hv9 := hl7.var
          have hm := fun W (h : W.cell? p = some (.slice (some ⟨g, 0, none⟩) N cap)) => (m_less p W).trans (load_then Tryz.prog 168 p W _ h)
          go_wp2_with fail
          refine hls.mono ?_
          rintro _ w8 ⟨rfl, hq8⟩
          clear hls hm
          have hl8 := hl7.quiet hq8
          have hc8 := hc7.trans (hq8.chg (fun k => k = g)) (fun _ _ h => h)
          have hv8 := hl8.var
          clear hv9
          by_cases t2 : numAt l (2 * i + 2) < numAt l i
          · have hd : decide (numAt l (2 * i + 2) < numAt l i) = true := by simpa using t2
            rw [hd]
            have hsw := swap_row hl8.row hl8.len (i := i) (j := 2 * i + 2) hi (by omega) hn
            rw [show ((2 * i + 2 : Nat) : Int) = 2 * (i : Int) + 1 + 1 by omega] at hsw
            have hm := fun W (h : W.cell? p = some (.slice (some ⟨g, 0, none⟩) N cap)) => (m_swap p W).trans (load_then Tryz.prog 169 p W _ h)
            go_wp2_with fail
            refine hsw.mono ?_
            rintro _ w9 ⟨rfl, hr9, hc9⟩
            clear hsw hm
            go_wp2_with fail
            go_roundw
            case rel =>
              refine ⟨2 * i + 2, f - 1, swapL l i (2 * i + 2), by go_num, by omega, by omega, ⟨?_, by rw [swapL_length]; exact hl.len, hr9, hl.ne⟩, hc8.trans hc9 (fun _ _ h => h), ?_⟩
              · exact (World.cell?_of_block (hc9.block p.block (World.block_lt_of_cell? w8 p hv8) hl.ne)).trans hv8
              · show _ = _
                rw [HE.out]
                obtain ⟨f, rfl⟩ : ∃ f', f = f' + 1 := ⟨f - 1, by omega⟩
                simp [downFn, c1, c2, t1, t2]
            case measure => simp [intOf]; omega
          · have hd : decide (numAt l (2 * i + 2) < numAt l i) = false := by simpa using t2
            rw [hd]
            go_wp2_with fail
            go_ret
            refine ⟨_, rfl, ?_, hc8⟩
            rw [HE.out]
            obtain ⟨f, rfl⟩ : ∃ f', f = f' + 1 := ⟨f - 1, by omega⟩
            have T2 : ¬ numAt l (2 * i + 2) < numAt l i := by omega
            have : downFn (f + 1) l i n = l := by simp [downFn, c1, c2, t1, T2]
            rw [this]; exact hl8
        · have hd1 : decide (numAt l (2 * i + 2) < numAt l (2 * i + 1)) = false := by simpa using t1
          rw [hd1]
          have hls := less_row hl7.row hl7.len (i := 2 * i + 1) (j := i) (by omega) hi hn
          rw [show ((2 * i + 1 : Nat) : Int) = 2 * (i : Int) + 1 by omega] at hls
          have hv9 := hl7.var
          have hm := fun W (h : W.cell? p = some (.slice (some ⟨g, 0, none⟩) N cap)) => (m_less p W).trans (load_then Tryz.prog 168 p W _ h)
          go_wp2_with fail
          refine hls.mono ?_
          rintro _ w8 ⟨rfl, hq8⟩
          clear hls hm
          have hl8 := hl7.quiet hq8
          have hc8 := hc7.trans (hq8.chg (fun k => k = g)) (fun _ _ h => h)
          have hv8 := hl8.var
          clear hv9
          by_cases t2 : numAt l (2 * i + 1) < numAt l i
          · have hd : decide (numAt l (2 * i + 1) < numAt l i) = true := by simpa using t2
            rw [hd]
            have hsw := swap_row hl8.row hl8.len (i := i) (j := 2 * i + 1) hi (by omega) hn
            rw [show ((2 * i + 1 : Nat) : Int) = 2 * (i : Int) + 1 by omega] at hsw
            have hm := fun W (h : W.cell? p = some (.slice (some ⟨g, 0, none⟩) N cap)) => (m_swap p W).trans (load_then Tryz.prog 169 p W _ h)
            go_wp2_with fail
            refine hsw.mono ?_
            rintro _ w9 ⟨rfl, hr9, hc9⟩
            clear hsw hm
            go_wp2_with fail
            go_roundw
            case rel =>
              refine ⟨2 * i + 1, f - 1, swapL l i (2 * i + 1), by go_num, by omega, by omega, ⟨?_, by rw [swapL_length]; exact hl.len, hr9, hl.ne⟩, hc8.trans hc9 (fun _ _ h => h), ?_⟩
              · exact (World.cell?_of_block (hc9.block p.block (World.block_lt_of_cell? w8 p hv8) hl.ne)).trans hv8
              · show _ = _
                rw [HE.out]
                obtain ⟨f, rfl⟩ : ∃ f', f = f' + 1 := ⟨f - 1, by omega⟩
                simp [downFn, c1, show ¬ numAt l (2 * i + 2) < numAt l (2 * i + 1) by omega, t2]
            case measure => simp [intOf]; omega
          · have hd : decide (numAt l (2 * i + 1) < numAt l i) = false := by simpa using t2
            rw [hd]
            go_wp2_with fail
            go_ret
            refine ⟨_, rfl, ?_, hc8⟩
            rw [HE.out]
            obtain ⟨f, rfl⟩ : ∃ f', f = f' + 1 := ⟨f - 1, by omega⟩
            have T2 : ¬ numAt l (2 * i + 1) < numAt l i := by omega
            have : downFn (f + 1) l i n = l := by simp [downFn, c1, show ¬ numAt l (2 * i + 2) < numAt l (2 * i + 1) by omega, T2]
            rw [this]; exact hl8
      · have c2' : (n : Int) ≤ 2 * (i : Int) + 1 + 1 := by omega
        have hls := less_row hl.row hl.len (i := 2 * i + 1) (j := i) (by omega) hi hn
        rw [show ((2 * i + 1 : Nat) : Int) = 2 * (i : Int) + 1 by omega] at hls
        have hv9 := hl.var
        have hm := fun W (h : W.cell? p = some (.slice (some ⟨g, 0, none⟩) N cap)) => (m_less p W).trans (load_then Tryz.prog 168 p W _ h)
        go_wp2_with fail
        refine hls.mono ?_
        rintro _ w8 ⟨rfl, hq8⟩
        clear hls hm
        have hl8 := hl.quiet hq8
        have hc8 := hc.trans (hq8.chg (fun k => k = g)) (fun _ _ h => h)
        have hv8 := hl8.var
        clear hv9
        by_cases t2 : numAt l (2 * i + 1) < numAt l i
        · have hd : decide (numAt l (2 * i + 1) < numAt l i) = true := by simpa using t2
          rw [hd]
          have hsw := swap_row hl8.row hl8.len (i := i) (j := 2 * i + 1) hi (by omega) hn
          rw [show ((2 * i + 1 : Nat) : Int) = 2 * (i : Int) + 1 by omega] at hsw
          have hm := fun W (h : W.cell? p = some (.slice (some ⟨g, 0, none⟩) N cap)) => (m_swap p W).trans (load_then Tryz.prog 169 p W _ h)
          go_wp2_with fail
          refine hsw.mono ?_
          rintro _ w9 ⟨rfl, hr9, hc9⟩
          clear hsw hm
          go_wp2_with fail
          go_roundw
          case rel =>
            refine ⟨2 * i + 1, f - 1, swapL l i (2 * i + 1), by go_num, by omega, by omega, ⟨?_, by rw [swapL_length]; exact hl.len, hr9, hl.ne⟩, hc8.trans hc9 (fun _ _ h => h), ?_⟩
            · exact (World.cell?_of_block (hc9.block p.block (World.block_lt_of_cell? w8 p hv8) hl.ne)).trans hv8
            · show _ = _
              rw [HE.out]
              obtain ⟨f, rfl⟩ : ∃ f', f = f' + 1 := ⟨f - 1, by omega⟩
              simp [downFn, c1, c2, t2]
          case measure => simp [intOf]; omega
        · have hd : decide (numAt l (2 * i + 1) < numAt l i) = false := by simpa using t2
          rw [hd]
          go_wp2_with fail
          go_ret
          refine ⟨_, rfl, ?_, hc8⟩
          rw [HE.out]
          obtain ⟨f, rfl⟩ : ∃ f', f = f' + 1 := ⟨f - 1, by omega⟩
          have T2 : ¬ numAt l (2 * i + 1) < numAt l i := by omega
          have : downFn (f + 1) l i n = l := by simp [downFn, c1, c2, T2]
          rw [this]; exact hl8

end Go.Proofs.YthedkdbgfdjlkaaGreat
