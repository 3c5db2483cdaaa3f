/- Once, THE PURE PART: what the document's relay makes of records that producers number by sessions. -/
import Derived.Test.YtdoedjmdcmgddaaGreatLaw5
namespace Go.Proofs.YtdoedjmdcmgddaaGreat
set_option linter.unusedVariables false
set_option linter.unusedSimpArgs false
open Go.RowKit

def Rec.wt (x : Rec) : Wt := ⟨x.number, x.key, x.value⟩

/-- The ledger behind these records, one after another. -/
def keysOf (l : List Rec) (ks : List Ky) : List Ky := l.foldl (fun ks x => takeKy x.key x.value ks) ks

/-- Those of one session. -/
def ofS (all : List Rec) (i : Nat) : List Rec := all.filter (fun x => x.session == (i : Int))

def kC : ByteArray := { data := #[99] }
def kS : ByteArray := { data := #[115] }
def kL : ByteArray := { data := #[108, 97, 115, 116] }
def kM : ByteArray := { data := #[109, 97, 120] }
def names4 : List ByteArray := [kC, kS, kL, kM]

/-- Records as producers send them. -/
structure Numbered (all : List Rec) : Prop where
  few : all.length ≤ 900
  each : ∀ x ∈ all, 0 ≤ x.session ∧ x.session < 4 ∧ x.epoch = 0 ∧ x.key ∈ names4 ∧ 0 ≤ x.value ∧ x.value ≤ 4294967295
  num : ∀ (i n : Nat) (x : Rec), (ofS all i)[n]? = some x → x.number = n

structure LnInv (A : List Rec) (l : Ln) : Prop where
  ep : l.epoch = 0
  lo : 0 ≤ l.base
  hi : l.base ≤ A.length
  up : l.ws.Pairwise fun a b => a.num < b.num
  win : ∀ y ∈ l.ws, l.base < y.num ∧ y.num < l.base + 4
  wt : ∀ y ∈ l.ws, ∃ x, A[y.num.toNat]? = some x ∧ y = x.wt

def bases : List Ln → Int
  | [] => 0
  | l :: r => l.base + bases r

structure OInv (all ol : List Rec) (s : St) : Prop where
  four : s.lanes.length = 4
  keys : s.keys = keysOf ol []
  lane : ∀ (i : Nat) (l : Ln), s.lanes[i]? = some l → LnInv (ofS all i) l
  sum : (ol.length : Int) = bases s.lanes
  sub : ∀ x ∈ ol, x ∈ all

theorem keysOf_append (a b : List Rec) (ks : List Ky) : keysOf (a ++ b) ks = keysOf b (keysOf a ks) := List.foldl_append

theorem counts_keysOf : ∀ (l : List Rec) (ks : List Ky), counts (keysOf l ks) = counts ks + l.length
  | [], ks => by simp [keysOf]
  | x :: r, ks => by
    have := counts_keysOf r (takeKy x.key x.value ks)
    rw [counts_takeKy] at this
    simp only [keysOf, List.foldl_cons] at this ⊢
    rw [this]
    simp
    omega

theorem bases_set : ∀ (ls : List Ln) (i : Nat) (l l' : Ln), ls[i]? = some l → bases (ls.set i l') = bases ls - l.base + l'.base
  | [], i, l, l', h => by simp at h
  | x :: r, 0, l, l', h => by
    simp at h; subst h
    simp [bases]; omega
  | x :: r, i + 1, l, l', h => by
    have := bases_set r i l l' (by simpa using h)
    simp [bases, this]; omega

theorem up_len : ∀ (ws : List Wt) (a b : Int), (ws.Pairwise fun a b => a.num < b.num) → (∀ y ∈ ws, a ≤ y.num ∧ y.num < b) → ws = [] ∨ (ws.length : Int) ≤ b - a
  | [], a, b, _, _ => .inl rfl
  | x :: r, a, b, hu, hm => by
    right
    obtain ⟨h1, h2⟩ := List.pairwise_cons.1 hu
    have hx := hm x (by simp)
    rcases up_len r (x.num + 1) b h2 (fun y hy => ⟨h1 y hy, (hm y (by simp [hy])).2⟩) with h | h
    · subst h; simp; omega
    · simp; omega

theorem LnInv.room {A : List Rec} {l : Ln} (h : LnInv A l) : l.base + l.ws.length ≤ A.length := by
  rcases up_len l.ws (l.base + 1) A.length h.up (fun y hy => ⟨(h.win y hy).1, by
    obtain ⟨x, hx, _⟩ := h.wt y hy
    have := (List.getElem?_eq_some_iff.1 hx).1
    have := (h.win y hy).1
    have := h.lo
    omega⟩) with e | e
  · have := h.hi
    rw [e]; simpa using this
  · omega

theorem ofS_total : ∀ (all : List Rec), (∀ x ∈ all, 0 ≤ x.session ∧ x.session < 4) → (ofS all 0).length + (ofS all 1).length + (ofS all 2).length + (ofS all 3).length = all.length
  | [], _ => rfl
  | x :: r, h => by
    have ih := ofS_total r (fun y hy => h y (by simp [hy]))
    have hx := h x (by simp)
    unfold ofS at ih ⊢
    rcases (by omega : x.session = 0 ∨ x.session = 1 ∨ x.session = 2 ∨ x.session = 3) with e | e | e | e <;> simp [List.filter_cons, e] at ih ⊢ <;> omega

theorem OInv.total {all ol : List Rec} {s : St} (h : OInv all ol s) (hn : Numbered all) : s.records ≤ all.length := by
  have ht := ofS_total all (fun x hx => ⟨(hn.each x hx).1, (hn.each x hx).2.1⟩)
  have hk : counts s.keys = bases s.lanes := by rw [h.keys, counts_keysOf, ← h.sum]; simp [counts]
  unfold St.records
  rw [hk]
  have h4 := h.four
  have hl := h.lane
  match hs : s.lanes, h4 with
  | [l0, l1, l2, l3], _ =>
    rw [hs] at hl
    have r0 := (hl 0 l0 rfl).room
    have r1 := (hl 1 l1 rfl).room
    have r2 := (hl 2 l2 rfl).room
    have r3 := (hl 3 l3 rfl).room
    simp only [bases, waits]
    omega

/-- What is taken, one behind another. -/
theorem drain_once (A : List Rec) : ∀ (ws : List Wt) (b : Int) (ks : List Ky), 0 ≤ b → (ws.Pairwise fun a b => a.num < b.num) → (∀ y ∈ ws, b ≤ y.num ∧ ∃ x, A[y.num.toNat]? = some x ∧ y = x.wt) →
    ∃ n : Nat, drainW b ws ks = (b + n, ws.drop n, keysOf ((A.drop b.toNat).take n) ks) ∧ n ≤ ws.length ∧ (n = 0 ∨ b + n ≤ A.length) ∧ (∀ y ∈ ws.drop n, b + n < y.num) ∧ (∀ y, ws.head? = some y → y.num = b → 0 < n)
  | [], b, ks, _, _, _ => ⟨0, by simp [drainW, keysOf], by simp, .inl rfl, by simp, by simp⟩
  | x :: r, b, ks, hb, hu, hm => by
    obtain ⟨h1, h2⟩ := List.pairwise_cons.1 hu
    obtain ⟨hx1, x0, hx2, hx3⟩ := hm x (by simp)
    by_cases e : x.num = b
    · obtain ⟨n, g1, g2, g3, g4, _⟩ := drain_once A r (b + 1) (takeKy x.key x.val ks) (by omega) h2 (fun y hy => ⟨by have := h1 y hy; omega, (hm y (by simp [hy])).2⟩)
      have hlen := (List.getElem?_eq_some_iff.1 hx2).1
      rw [e] at hx2 hlen
      have hd : A.drop b.toNat = x0 :: A.drop (b.toNat + 1) := by
        rw [List.drop_eq_getElem_cons hlen, (List.getElem?_eq_some_iff.1 hx2).2]
      refine ⟨n + 1, ?_, by simp; omega, .inr (by rcases g3 with g3 | g3 <;> omega), fun y hy => ?_, fun _ _ _ => by omega⟩
      · simp only [drainW, if_pos e]
        rw [g1, hd]
        have e1 : (b + 1).toNat = b.toNat + 1 := by omega
        have e2 : b + 1 + (n : Int) = b + ((n + 1 : Nat) : Int) := by omega
        rw [e1, e2]
        simp only [List.take_succ_cons, List.drop_succ_cons, keysOf, List.foldl_cons]
        rw [hx3]
        rfl
      · have := g4 y (by simpa using hy)
        omega
    · refine ⟨0, by simp [drainW, if_neg e, keysOf], by simp, .inl rfl, fun y hy => ?_, fun y hy he => ?_⟩
      · simp at hy
        rcases hy with rfl | hy
        · omega
        · have := h1 y hy; omega
      · simp at hy; subst hy; exact absurd he e

theorem mem_putW (x : Wt) : ∀ (l : List Wt) (y : Wt), y ∈ putW x l ↔ y = x ∨ y ∈ l
  | [], y => by simp [putW]
  | z :: r, y => by
    unfold putW
    split
    · simp
    · simp only [List.mem_cons, mem_putW x r y]
      constructor
      · rintro (h | h | h) <;> simp [h]
      · rintro (h | h | h) <;> simp [h]

theorem putW_up (x : Wt) : ∀ {l : List Wt}, (l.Pairwise fun a b => a.num < b.num) → (∀ y ∈ l, y.num ≠ x.num) → (putW x l).Pairwise fun a b => a.num < b.num
  | [], _, _ => by simp [putW]
  | z :: r, hu, hn => by
    obtain ⟨h1, h2⟩ := List.pairwise_cons.1 hu
    unfold putW
    split
    · rename_i h
      refine List.pairwise_cons.2 ⟨fun y hy => ?_, hu⟩
      rcases List.mem_cons.1 hy with rfl | hy
      · exact h
      · have := h1 y hy; omega
    · rename_i h
      refine List.pairwise_cons.2 ⟨fun y hy => ?_, putW_up x h2 (fun y hy => hn y (by simp [hy]))⟩
      rcases (mem_putW x r y).1 hy with rfl | hy
      · have := hn z (by simp); omega
      · exact h1 y hy

theorem putW_head (x : Wt) : ∀ {l : List Wt}, (∀ y ∈ l, x.num < y.num) → (putW x l).head? = some x
  | [], _ => rfl
  | z :: r, h => by
    have := h z (by simp)
    simp [putW, this]

theorem isIn_mem (k : ByteArray) (r : List ByteArray) : isIn k r = true ↔ k ∈ r := by
  unfold isIn
  rw [List.any_eq_true]
  constructor
  · rintro ⟨y, hy, e⟩
    have e : y = k := by simpa using e
    rw [← e]; exact hy
  · intro h
    exact ⟨k, h, by simp⟩

theorem distinct_le (m : List ByteArray) : ∀ (l : List ByteArray), (∀ k ∈ l, k ∈ m) → distinct l ≤ m.length := by
  intro l
  suffices h : ∀ l : List ByteArray, ∃ N : List ByteArray, N.Nodup ∧ (∀ x ∈ N, x ∈ l) ∧ N.length = distinct l by
    intro hl
    obtain ⟨N, h1, h2, h3⟩ := h l
    rw [← h3]
    exact h1.length_le_of_subset (fun x hx => hl x (h2 x hx))
  intro l
  induction l with
  | nil => exact ⟨[], List.nodup_nil, by simp, rfl⟩
  | cons k r ih =>
    obtain ⟨N, h1, h2, h3⟩ := ih
    unfold distinct
    split
    · exact ⟨N, h1, fun x hx => by simp [h2 x hx], h3⟩
    · rename_i hk
      refine ⟨k :: N, List.nodup_cons.2 ⟨fun h => hk ((isIn_mem k r).2 (h2 k h)), h1⟩, fun x hx => ?_, by simp [h3]⟩
      rcases List.mem_cons.1 hx with rfl | hx
      · simp
      · simp [h2 x hx]

theorem keysOf_names : ∀ (l : List Rec) (ks : List Ky) (k : Ky), k ∈ keysOf l ks → (∃ y ∈ ks, y.name = k.name) ∨ ∃ x ∈ l, x.key = k.name
  | [], ks, k, h => .inl ⟨k, h, rfl⟩
  | x :: r, ks, k, h => by
    rcases keysOf_names r (takeKy x.key x.value ks) k h with ⟨y, hy, e⟩ | ⟨y, hy, e⟩
    · rcases takeKy_name_mem _ _ _ _ hy with h | ⟨z, hz, e2⟩
      · exact .inr ⟨x, by simp, by rw [← e, h]⟩
      · exact .inl ⟨z, hz, by rw [e2, e]⟩
    · exact .inr ⟨y, by simp [hy], e⟩

theorem OInv.names {all ol : List Rec} {s : St} (h : OInv all ol s) (hn : Numbered all) : ∀ k ∈ s.names, k ∈ names4 := by
  intro k hk
  unfold St.names at hk
  rcases List.mem_append.1 hk with hk | hk
  · obtain ⟨y, hy, e⟩ := List.mem_map.1 hk
    rw [h.keys] at hy
    rcases keysOf_names _ _ _ hy with ⟨z, hz, _⟩ | ⟨x, hx, e2⟩
    · simp at hz
    · rw [← e, ← e2]; exact (hn.each x (h.sub x hx)).2.2.2.1
  · obtain ⟨l, hl, hk⟩ := List.mem_flatMap.1 hk
    obtain ⟨y, hy, e⟩ := List.mem_map.1 hk
    obtain ⟨i, hi, e2⟩ := List.getElem_of_mem hl
    obtain ⟨x, hx, e3⟩ := (h.lane i l (by rw [List.getElem?_eq_getElem hi, e2])).wt y hy
    have hx' := (List.mem_filter.1 (List.mem_of_getElem? hx)).1
    rw [← e, e3]
    exact (hn.each x hx').2.2.2.1

/-- A key that is one of the four, and not there: there is room. -/
theorem names_room {k : ByteArray} {l : List ByteArray} (hk : k ∈ names4) (hl : ∀ y ∈ l, y ∈ names4) : ¬ (isIn k l = false ∧ 4 ≤ distinct l) := by
  rintro ⟨h1, h2⟩
  have h3 : ∀ y ∈ l, y ≠ k := fun y hy e => by
    have := (isIn_mem k l).2 (by rw [← e]; exact hy)
    rw [h1] at this
    cases this
  have h4 : ∃ m : List ByteArray, m.length = 3 ∧ ∀ y ∈ l, y ∈ m := by
    simp only [names4, List.mem_cons, List.not_mem_nil, or_false] at hk hl
    rcases hk with rfl | rfl | rfl | rfl
    · exact ⟨[kS, kL, kM], rfl, fun y hy => by have := hl y hy; have := h3 y hy; simp_all⟩
    · exact ⟨[kC, kL, kM], rfl, fun y hy => by have := hl y hy; have := h3 y hy; simp_all⟩
    · exact ⟨[kC, kS, kM], rfl, fun y hy => by have := hl y hy; have := h3 y hy; simp_all⟩
    · exact ⟨[kC, kS, kL], rfl, fun y hy => by have := hl y hy; have := h3 y hy; simp_all⟩
  obtain ⟨m, h5, h6⟩ := h4
  have := distinct_le m l h6
  omega

theorem ofS_number {all : List Rec} (hn : Numbered all) {x : Rec} (hx : x ∈ all) {i : Nat} (hi : x.session = i) : 0 ≤ x.number ∧ (ofS all i)[x.number.toNat]? = some x := by
  have hm : x ∈ ofS all i := List.mem_filter.2 ⟨hx, by simp [hi]⟩
  obtain ⟨n, hl, e⟩ := List.getElem_of_mem hm
  have h1 : (ofS all i)[n]? = some x := by rw [List.getElem?_eq_getElem hl, e]
  have h2 := hn.num i n x h1
  refine ⟨by omega, ?_⟩
  rw [h2]; exact h1

theorem okKey_four {k : ByteArray} (h : k ∈ names4) : okKey k = true := by
  simp only [names4, List.mem_cons, List.not_mem_nil, or_false] at h
  rcases h with rfl | rfl | rfl | rfl <;> rfl

/-- What an Accept of one of them makes. -/
structure Took (all ol : List Rec) (s : St) (i : Nat) (l : Ln) (x : Rec) (b : Int) : Prop where
  near : x.number < l.base + 4
  ans : (accept s x).1 = (b, 0)
  lo : l.base ≤ b
  hi : b ≤ l.base + 4
  len : b ≤ (ofS all i).length
  past : x.number ≤ l.base → x.number < b
  inv : OInv all (ol ++ ((ofS all i).drop l.base.toNat).take (b - l.base).toNat) (accept s x).2
  here : ∃ l', (accept s x).2.lanes[i]? = some l' ∧ l'.base = b
  there : ∀ j, j ≠ i → (accept s x).2.lanes[j]? = s.lanes[j]?

theorem accept_once {all ol : List Rec} {s : St} (hn : Numbered all) (h : OInv all ol s) {x : Rec} (hx : x ∈ all) {i : Nat} {l : Ln} (hi : x.session = i) (hl : s.lanes[i]? = some l) :
    (accept s x = ((0, 5), s) ∧ l.base + 4 ≤ x.number) ∨ ∃ b, Took all ol s i l x b := by
  obtain ⟨e1, e2, e3, e4, e5, e6⟩ := hn.each x hx
  have hL := h.lane i l hl
  obtain ⟨n1, n2⟩ := ofS_number hn hx hi
  have hi4 : i < 4 := by omega
  have ha : accept s x = acceptIn s i l x := by
    unfold accept
    rw [if_neg (by omega), if_neg (by rw [okKey_four e4]; simp; omega)]
    have : x.session.toNat = i := by omega
    rw [this, hl]
  have ht : l.turned x.epoch = l := by
    unfold Ln.turned
    rw [if_neg (by rw [e3, hL.ep]; omega)]
  have hset : s.lanes.set i l = s.lanes := by
    obtain ⟨hlen, e⟩ := List.getElem?_eq_some_iff.1 hl
    rw [← e]; exact List.set_getElem_self hlen
  by_cases hfar : l.base + 4 ≤ x.number
  · left
    refine ⟨?_, hfar⟩
    rw [ha]
    unfold acceptIn
    simp only [ht]
    rw [if_neg (by rw [e3, hL.ep]; omega), if_pos (.inr hfar)]
  · right
    by_cases hold : x.number < l.base ∨ l.ws.any (fun y => y.num == x.number) = true
    · have hb : accept s x = ((l.base, 0), s) := by
        rw [ha]
        unfold acceptIn
        simp only [ht]
        rw [if_neg (by rw [e3, hL.ep]; omega), if_neg (by omega), if_pos hold]
      refine ⟨l.base, by omega, by rw [hb], by omega, by omega, hL.hi, fun h1 => ?_, ?_, ⟨l, by rw [hb]; exact hl, rfl⟩, fun j _ => by rw [hb]⟩
      · rcases hold with h2 | h2
        · exact h2
        · obtain ⟨y, hy, e⟩ := List.any_eq_true.1 h2
          have := (hL.win y hy).1
          have e : y.num = x.number := by simpa using e
          omega
      · rw [hb]
        have : (l.base - l.base).toNat = 0 := by omega
        rw [this]
        simpa using h
    · have hnw : ∀ y ∈ l.ws, y.num ≠ x.number := fun y hy e => hold (.inr (List.any_eq_true.2 ⟨y, hy, by simp [e]⟩))
      have hnb : l.base ≤ x.number := by
        rcases Int.lt_or_le x.number l.base with h1 | h1
        · exact absurd (.inl h1) hold
        · exact h1
      have htn : (⟨s.lanes.set i l, s.keys⟩ : St) = s := by rw [hset]
      have hroom := names_room e4 (h.names hn)
      have htot := h.total hn
      have hfew := hn.few
      obtain ⟨n, d1, d2, d3, d4, d5⟩ := drain_once (ofS all i) (putW x.wt l.ws) l.base s.keys hL.lo (putW_up _ hL.up hnw) (fun y hy => by
        rcases (mem_putW _ _ _).1 hy with rfl | hy
        · exact ⟨hnb, x, n2, rfl⟩
        · exact ⟨by have := (hL.win y hy).1; omega, hL.wt y hy⟩)
      have hn4 : n ≤ 4 := by
        rcases up_len (putW x.wt l.ws) l.base (l.base + 4) (putW_up _ hL.up hnw) (fun y hy => by
          rcases (mem_putW _ _ _).1 hy with rfl | hy
          · exact ⟨hnb, by show x.number < _; omega⟩
          · have := hL.win y hy; omega) with e | e
        · rw [e] at d2; simp at d2; omega
        · omega
      have hb : accept s x = ((l.base + n, 0), ⟨s.lanes.set i ⟨0, l.base + n, (putW x.wt l.ws).drop n⟩, keysOf (((ofS all i).drop l.base.toNat).take n) s.keys⟩) := by
        rw [ha]
        unfold acceptIn
        simp only [ht, htn]
        rw [if_neg (by rw [e3, hL.ep]; omega), if_neg (by omega), if_neg hold, if_neg hroom, if_neg (by omega)]
        have d1' : drainW l.base (putW ⟨x.number, x.key, x.value⟩ l.ws) s.keys = _ := d1
        rw [d1', hL.ep]
      have hlen : l.base + n ≤ (ofS all i).length := by
        rcases d3 with d3 | d3
        · subst d3; have := hL.hi; omega
        · exact d3
      have hilen : i < s.lanes.length := by rw [h.four]; exact hi4
      have hnt : (l.base + (n : Int) - l.base).toNat = n := by omega
      have hlo := hL.lo
      refine ⟨l.base + n, by omega, by rw [hb], by omega, by omega, hlen, fun h1 => ?_, ?_, ⟨⟨0, l.base + n, (putW x.wt l.ws).drop n⟩, by rw [hb]; simp [List.getElem?_set_self hilen], rfl⟩, fun j hj => by rw [hb]; exact List.getElem?_set_ne (fun e => hj e.symm)⟩
      · have hhead : (putW x.wt l.ws).head? = some x.wt := putW_head _ (fun y hy => by have := (hL.win y hy).1; show x.number < _; omega)
        have := d5 _ hhead (show x.number = l.base by omega)
        omega
      · rw [hb, hnt]
        refine ⟨by simpa using h.four, ?_, fun j l' hl' => ?_, ?_, fun y hy => ?_⟩
        · rw [keysOf_append, ← h.keys]
        · by_cases hj : i = j
          · subst hj
            rw [List.getElem?_set_self hilen] at hl'
            simp at hl'
            subst hl'
            refine ⟨rfl, by show 0 ≤ l.base + (n : Int); omega, hlen, ?_, fun y hy => ?_, fun y hy => ?_⟩
            · exact (putW_up _ hL.up hnw).sublist (List.drop_sublist _ _)
            · refine ⟨d4 y hy, ?_⟩
              rcases (mem_putW _ _ _).1 (List.mem_of_mem_drop hy) with rfl | hy
              · show x.number < l.base + (n : Int) + 4; omega
              · have := (hL.win y hy).2; show y.num < l.base + (n : Int) + 4; omega
            · rcases (mem_putW _ _ _).1 (List.mem_of_mem_drop hy) with rfl | hy
              · exact ⟨x, n2, rfl⟩
              · exact hL.wt y hy
          · rw [List.getElem?_set_ne hj] at hl'
            exact h.lane j l' hl'
        · rw [bases_set _ _ _ _ hl, ← h.sum]
          simp only [List.length_append, List.length_take, List.length_drop]
          omega
        · rcases List.mem_append.1 hy with hy | hy
          · exact h.sub y hy
          · exact (List.mem_filter.1 (List.mem_of_mem_drop (List.mem_of_mem_take hy))).1

theorem OInv.init (all : List Rec) : OInv all [] St.init := by
  refine ⟨rfl, rfl, fun i l hl => ?_, rfl, by simp⟩
  have : l = Ln.init := by
    have := List.mem_of_getElem? hl
    simp [St.init] at this
    exact this
  subst this
  exact ⟨rfl, by simp [Ln.init], by simp [Ln.init], by simp [Ln.init], by simp [Ln.init], by simp [Ln.init]⟩

end Go.Proofs.YtdoedjmdcmgddaaGreat
