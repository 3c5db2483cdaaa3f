import Derived.Test.YthedkdbgfdjlkaaGreatDoorPack1
import Derived.Test.YthedkdbgfdjlkaaGreatDoorPack2
import Derived.Test.YthedkdbgfdjlkaaGreatDoorPack3
import Derived.Test.YthedkdbgfdjlkaaGreatDoorPack4
import Derived.Test.YthedkdbgfdjlkaaGreatDoorPack5
import Derived.Test.YthedkdbgfdjlkaaGreatDoorPack6
/- Reading a row of bytes, as plain functions: the reader of this commit. Pure. -/
namespace Go.Proofs.YthedkdbgfdjlkaaGreatDoor
set_option linter.unusedVariables false
set_option linter.unusedSimpArgs false

/-- Where a reader is, and what was wrong first: where, and what (1: cut, 2: foreign). -/
structure Rs where
  at_ : Nat
  err : Option (Nat × Int)

def Rs.fail (r : Rs) (f : Int) : Rs := match r.err with
  | none => ⟨r.at_, some (r.at_, f)⟩
  | some _ => r

def rText (row : ByteArray) (n : Nat) (r : Rs) : ByteArray × Rs := match r.err with
  | some _ => (⟨#[]⟩, r)
  | none => if row.size < r.at_ + n then (⟨#[]⟩, ⟨r.at_, some (r.at_, 1)⟩) else (row.extract r.at_ (r.at_ + n), ⟨r.at_ + n, none⟩)

/-- k digits may follow. -/
def rNumFrom (row : ByteArray) : Nat → Nat → Nat → Rs → Nat × Rs
  | 0, _, _, r => (0, r.fail 2)
  | k + 1, sh, sum, r => match (rText row 1 r).1.data.toList with
    | [] => (0, (rText row 1 r).2)
    | c :: _ => if c.toNat < 128 then (sum + c.toNat % 128 * 2 ^ sh, (rText row 1 r).2) else rNumFrom row k (sh + 7) (sum + c.toNat % 128 * 2 ^ sh) (rText row 1 r).2

def rNum (row : ByteArray) (r : Rs) : Nat × Rs := rNumFrom row 9 0 0 r

def rUpTo (row : ByteArray) (limit : Nat) (r : Rs) : Nat × Rs := if limit < (rNum row r).1 then (0, (rNum row r).2.fail 2) else rNum row r

def rKey (row : ByteArray) (r : Rs) : ByteArray × Rs := rText row (rUpTo row 6 r).1 (rUpTo row 6 r).2

def rPair (row : ByteArray) (r : Rs) : (Int × Int) × Rs := (((rNum row r).1, (rNum row (rNum row r).2).1), (rNum row (rNum row r).2).2)

def rRec (row : ByteArray) (r : Rs) : Rec × Rs :=
  let a := rNum row r
  let b := rNum row a.2
  let c := rNum row b.2
  let d := rKey row c.2
  let e := rNum row d.2
  (⟨a.1, b.1, c.1, d.1, e.1⟩, e.2)

def rKy (row : ByteArray) (r : Rs) : Ky × Rs :=
  let a := rKey row r
  let b := rNum row a.2
  let c := rNum row b.2
  let d := rNum row c.2
  (⟨a.1, b.1, c.1, d.1⟩, d.2)

/-- So many, one behind another. -/
def rMany {α : Type} (f : Rs → α × Rs) : Nat → Rs → List α × Rs
  | 0, r => ([], r)
  | k + 1, r => ((rMany f k r).1 ++ [(f (rMany f k r).2).1], (f (rMany f k r).2).2)

def keyCan (k : Ky) : Bool := okKey k.name && decide (0 ≤ k.fold) && decide (k.fold ≤ 4294967295) && decide (1 ≤ k.count) && decide (k.count ≤ 1000) && decide (0 ≤ k.held) && decide (k.held ≤ k.count)

def keysCan : ByteArray → List Ky → Bool
  | _, [] => true
  | last, k :: r => keyCan k && less last k.name && keysCan k.name r

def sessCan (s : Int × Int) : Bool := decide (0 ≤ s.1) && decide (0 ≤ s.2) && decide (s.2 ≤ 1000)

def basesOf : List (Int × Int) → Int
  | [] => 0
  | s :: r => s.2 + basesOf r

/-- Can a flow come to stand so? -/
def canBe (ss : List (Int × Int)) (ks : List Ky) : Bool :=
  decide (ss.length = 4) && decide (ks.length ≤ 4) && keysCan ⟨#[]⟩ ks && ss.all sessCan && decide (counts ks ≤ 1000) && decide (basesOf ss ≤ counts ks)

def acceptAll : St → List Rec → Option St
  | s, [] => some s
  | s, x :: r => if (accept s x).1.2 = 0 then acceptAll (accept s x).2 r else none

def bare (ss : List (Int × Int)) (ks : List Ky) : St := ⟨ss.map fun s => (⟨s.1, s.2, []⟩ : Ln), ks⟩

def restore (ss : List (Int × Int)) (ks : List Ky) (xs : List Rec) : Option St := if canBe ss ks then acceptAll (bare ss ks) xs else none

def markA : ByteArray := ⟨#[99, 117, 108, 118, 101, 114, 116, 49]⟩

def rMark (row : ByteArray) (r : Rs) : Rs := if (rText row 8 r).1 = markA then (rText row 8 r).2 else (rText row 8 r).2.fail 2

/-- All but the flow. -/
def rParts (row : ByteArray) (r : Rs) : List (Int × Int) × List Ky × List Rec × Rs :=
  let a := rMany (rPair row) 4 (rMark row r)
  let n := rUpTo row 4 a.2
  let b := rMany (rKy row) n.1 n.2
  let m := rUpTo row 12 b.2
  let c := rMany (rRec row) m.1 m.2
  (a.1, b.1, c.1, c.2)

def rHead (row : ByteArray) (r : Rs) : Option St × Rs :=
  match (rParts row r).2.2.2.err with
  | some _ => (none, (rParts row r).2.2.2)
  | none => match restore (rParts row r).1 (rParts row r).2.1 (rParts row r).2.2.1 with
    | none => (none, (rParts row r).2.2.2.fail 2)
    | some s => (some s, (rParts row r).2.2.2)

def accR : ByteArray := ⟨#[114]⟩
def ansR : ByteArray := ⟨#[97]⟩

def rEntry (row : ByteArray) (s : St) (r : Rs) : St × Rs :=
  let t := rText row 1 r
  if t.1 = accR then
    let x := rRec row t.2
    match x.2.err with
    | some _ => (s, x.2)
    | none => ((accept s x.1).2, if (accept s x.1).1.2 = 0 then x.2 else x.2.fail 2)
  else if t.1 = ansR then
    let k := rKey row t.2
    let n := rNum row k.2
    match n.2.err with
    | some _ => (s, n.2)
    | none => ((answer s k.1 n.1).2, if (answer s k.1 n.1).1 = 0 then n.2 else n.2.fail 2)
  else (s, t.2.fail 2)

/-- Entry by entry; what counted is where the last one began. -/
def rLoop (row : ByteArray) : Nat → St → Rs → Nat → St × Nat × Rs
  | 0, s, r, c => (s, c, r)
  | f + 1, s, r, c => match r.err with
    | some _ => (s, c, r)
    | none => if r.at_ = row.size then (s, r.at_, r) else rLoop row f (rEntry row s r).1 (rEntry row s r).2 r.at_

/-- What Open makes of a row: nothing, or a state and how much of the row counted. -/
def opens (row : ByteArray) : Option (St × Nat) :=
  match (rHead row ⟨0, none⟩).1 with
  | none => none
  | some s =>
    let q := rLoop row (row.size + 1) s (rHead row ⟨0, none⟩).2 0
    match q.2.2.err with
    | none => some (q.1, q.2.1)
    | some (_, f) => if f = 1 then some (q.1, q.2.1) else none

theorem Rs.fail_none (r : Rs) (f : Int) (h : r.err = none) : r.fail f = ⟨r.at_, some (r.at_, f)⟩ := by unfold Rs.fail; rw [h]
theorem Rs.fail_some (r : Rs) (f : Int) {e} (h : r.err = some e) : r.fail f = r := by unfold Rs.fail; rw [h]
theorem rText_some (row : ByteArray) (n : Nat) (r : Rs) {e} (h : r.err = some e) : rText row n r = (⟨#[]⟩, r) := by unfold rText; rw [h]
theorem rText_cut (row : ByteArray) (n : Nat) (r : Rs) (h : r.err = none) (hs : row.size < r.at_ + n) : rText row n r = (⟨#[]⟩, ⟨r.at_, some (r.at_, 1)⟩) := by unfold rText; rw [h]; simp [hs]
theorem rText_ok (row : ByteArray) (n : Nat) (r : Rs) (h : r.err = none) (hs : ¬ row.size < r.at_ + n) : rText row n r = (row.extract r.at_ (r.at_ + n), ⟨r.at_ + n, none⟩) := by unfold rText; rw [h]; simp [hs]

/-- Once something is wrong, nothing moves. -/
theorem rNumFrom_some (row : ByteArray) (k sh sum : Nat) (r : Rs) {e} (h : r.err = some e) : rNumFrom row k sh sum r = (0, r) := by
  cases k with
  | zero => simp [rNumFrom, r.fail_some 2 h]
  | succ k => simp [rNumFrom, rText_some row 1 r h]
theorem rNum_some (row : ByteArray) (r : Rs) {e} (h : r.err = some e) : rNum row r = (0, r) := rNumFrom_some row 9 0 0 r h
theorem rUpTo_some (row : ByteArray) (n : Nat) (r : Rs) {e} (h : r.err = some e) : rUpTo row n r = (0, r) := by simp [rUpTo, rNum_some row r h]
theorem rKey_some (row : ByteArray) (r : Rs) {e} (h : r.err = some e) : rKey row r = (⟨#[]⟩, r) := by simp [rKey, rUpTo_some row 6 r h, rText_some row 0 r h]
theorem rPair_some (row : ByteArray) (r : Rs) {e} (h : r.err = some e) : (rPair row r).2 = r := by simp [rPair, rNum_some row r h]
theorem rRec_some (row : ByteArray) (r : Rs) {e} (h : r.err = some e) : (rRec row r).2 = r := by simp [rRec, rNum_some row r h, rKey_some row r h]
theorem rKy_some (row : ByteArray) (r : Rs) {e} (h : r.err = some e) : (rKy row r).2 = r := by simp [rKy, rNum_some row r h, rKey_some row r h]
theorem rMany_some {α : Type} {f : Rs → α × Rs} (hf : ∀ r e, r.err = some e → (f r).2 = r) (r : Rs) {e} (h : r.err = some e) : ∀ k, (rMany f k r).2 = r
  | 0 => rfl
  | k + 1 => by simp only [rMany]; rw [rMany_some hf r h k]; exact hf r e h

/-- A reader goes on, never beyond the end. -/
structure Rs.on (row : ByteArray) (r r' : Rs) : Prop where
  le : r.at_ ≤ r'.at_
  fits : r.at_ ≤ row.size → r'.at_ ≤ row.size
  stuck : ∀ e, r.err = some e → r' = r

theorem Rs.on.refl (row : ByteArray) (r : Rs) : Rs.on row r r := ⟨Nat.le_refl _, id, fun _ _ => rfl⟩
theorem Rs.on.trans {row : ByteArray} {a b c : Rs} (h : Rs.on row a b) (g : Rs.on row b c) : Rs.on row a c :=
  ⟨Nat.le_trans h.le g.le, fun x => g.fits (h.fits x), fun e he => by have := h.stuck e he; subst this; exact g.stuck e he⟩
theorem Rs.on.fail (row : ByteArray) (r : Rs) (f : Int) : Rs.on row r (r.fail f) := by
  cases h : r.err with
  | none => rw [r.fail_none f h]; exact ⟨Nat.le_refl _, id, fun e he => by rw [h] at he; cases he⟩
  | some e => rw [r.fail_some f h]; exact Rs.on.refl _ _
theorem Rs.on.text (row : ByteArray) (n : Nat) (r : Rs) : Rs.on row r (rText row n r).2 := by
  cases h : r.err with
  | some e => rw [rText_some row n r h]; exact Rs.on.refl _ _
  | none =>
    by_cases hs : row.size < r.at_ + n
    · rw [rText_cut row n r h hs]; exact ⟨Nat.le_refl _, id, fun e he => by rw [h] at he; cases he⟩
    · rw [rText_ok row n r h hs]; exact ⟨Nat.le_add_right _ _, fun _ => by simp only; omega, fun e he => by rw [h] at he; cases he⟩
theorem Rs.on.numFrom (row : ByteArray) : ∀ (k sh sum : Nat) (r : Rs), Rs.on row r (rNumFrom row k sh sum r).2
  | 0, sh, sum, r => Rs.on.fail row r 2
  | k + 1, sh, sum, r => by
    unfold rNumFrom
    split
    · exact Rs.on.text row 1 r
    · split
      · exact Rs.on.text row 1 r
      · exact (Rs.on.text row 1 r).trans (Rs.on.numFrom row k _ _ _)
theorem Rs.on.num (row : ByteArray) (r : Rs) : Rs.on row r (rNum row r).2 := Rs.on.numFrom row 9 0 0 r
theorem Rs.on.upTo (row : ByteArray) (n : Nat) (r : Rs) : Rs.on row r (rUpTo row n r).2 := by
  unfold rUpTo
  split
  · exact (Rs.on.num row r).trans (Rs.on.fail row _ 2)
  · exact Rs.on.num row r
theorem Rs.on.key (row : ByteArray) (r : Rs) : Rs.on row r (rKey row r).2 := (Rs.on.upTo row 6 r).trans (Rs.on.text row _ _)
theorem Rs.on.pair (row : ByteArray) (r : Rs) : Rs.on row r (rPair row r).2 := (Rs.on.num row r).trans (Rs.on.num row _)
theorem Rs.on.rec_ (row : ByteArray) (r : Rs) : Rs.on row r (rRec row r).2 := ((((Rs.on.num row r).trans (Rs.on.num row _)).trans (Rs.on.num row _)).trans (Rs.on.key row _)).trans (Rs.on.num row _)
theorem Rs.on.ky (row : ByteArray) (r : Rs) : Rs.on row r (rKy row r).2 := (((Rs.on.key row r).trans (Rs.on.num row _)).trans (Rs.on.num row _)).trans (Rs.on.num row _)
theorem Rs.on.many {α : Type} {row : ByteArray} {f : Rs → α × Rs} (hf : ∀ r, Rs.on row r (f r).2) (r : Rs) : ∀ k, Rs.on row r (rMany f k r).2
  | 0 => Rs.on.refl _ _
  | k + 1 => (Rs.on.many hf r k).trans (hf _)
theorem Rs.on.mark (row : ByteArray) (r : Rs) : Rs.on row r (rMark row r) := by
  unfold rMark
  split
  · exact Rs.on.text row 8 r
  · exact (Rs.on.text row 8 r).trans (Rs.on.fail row _ 2)

/-- How great a number can be. -/
theorem rNumFrom_lt (row : ByteArray) : ∀ (k sh sum : Nat) (r : Rs), sum < 2 ^ sh → (rNumFrom row k sh sum r).1 < 2 ^ (sh + 7 * k)
  | 0, sh, sum, r, h => by simp only [rNumFrom]; exact Nat.two_pow_pos _
  | k + 1, sh, sum, r, h => by
    have hp : 2 ^ (sh + 7) = 128 * 2 ^ sh := by rw [Nat.pow_add]; omega
    have hsum : ∀ c : UInt8, sum + c.toNat % 128 * 2 ^ sh < 2 ^ (sh + 7) := fun c => by
      have h1 : c.toNat % 128 ≤ 127 := by omega
      have h2 : c.toNat % 128 * 2 ^ sh ≤ 127 * 2 ^ sh := Nat.mul_le_mul_right _ h1
      omega
    unfold rNumFrom
    split
    · exact Nat.two_pow_pos _
    · rename_i c _ _
      split
      · exact Nat.lt_of_lt_of_le (hsum c) (Nat.pow_le_pow_right (by omega) (by omega))
      · have := rNumFrom_lt row k (sh + 7) _ (rText row 1 r).2 (hsum c)
        rw [show sh + 7 * (k + 1) = sh + 7 + 7 * k by omega]
        exact this
theorem rNum_lt (row : ByteArray) (r : Rs) : (rNum row r).1 < 9223372036854775808 := rNumFrom_lt row 9 0 0 r (by omega)
theorem rUpTo_le (row : ByteArray) (n : Nat) (r : Rs) : (rUpTo row n r).1 ≤ n := by
  unfold rUpTo
  split
  · exact Nat.zero_le _
  · omega
theorem rText_size (row : ByteArray) (n : Nat) (r : Rs) : (rText row n r).1.size ≤ n := by
  cases h : r.err with
  | some e => rw [rText_some row n r h]; exact Nat.zero_le _
  | none =>
    by_cases hs : row.size < r.at_ + n
    · rw [rText_cut row n r h hs]; exact Nat.zero_le _
    · rw [rText_ok row n r h hs]; simp only [ByteArray.size_extract]; omega
theorem rKey_size (row : ByteArray) (r : Rs) : (rKey row r).1.size ≤ 6 := Nat.le_trans (rText_size row _ _) (rUpTo_le row 6 r)

end Go.Proofs.YthedkdbgfdjlkaaGreatDoor

/- flow.keyCanBe, flow.canBe, WALKED. -/
namespace Go.Proofs.YthedkdbgfdjlkaaGreatDoor
set_option linter.unusedVariables false
set_option linter.unusedSimpArgs false
open Go.RowKit Go.Lib

set_option maxRecDepth 100000 in
set_option maxHeartbeats 1000000 in
theorem keyCanBe_any (k : Ky) (w : World) (hk : k.name.size ≤ maxLen) : Calls Tryz.prog 158 #[.agg #[.string k.name, .int .i64 k.count, .int .i64 k.fold, .int .i64 k.held]] w fun e w' => e = .returned (.bool (keyCan k)) ∧ Chg (fun _ => False) w w' := by
  obtain ⟨name, count, fold, held⟩ := k
  simp only at hk ⊢
  obtain ⟨W, hW⟩ : ∃ W, W = w.alloc (.cells #[.string name, .int .i64 count, .int .i64 fold, .int .i64 held] 87) := ⟨_, rfl⟩
  have c0 : Chg (fun _ => False) w W := by rw [hW]; exact (Chg.refl _ w).alloc _
  have hik := isKey_any name W hk
  have hiv := isValue_any fold W
  rw [hW] at hik hiv
  cases hok : okKey name with
  | false =>
    rw [hok] at hik
    have e : keyCan ⟨name, count, fold, held⟩ = false := by simp [keyCan, hok]
    rw [e]
    go_enter Tryz.func158, Tryz.ntmps158
    go_wp2_with (go_at_call 78; refine hik.mono ?_; rintro _ w1 ⟨rfl, rfl⟩)
    go_ret
    rw [← hW]
    exact ⟨rfl, c0⟩
  | true =>
    rw [hok] at hik
    by_cases hf : 0 ≤ fold ∧ fold ≤ 4294967295
    · have hfd : decide (0 ≤ fold ∧ fold ≤ 4294967295) = true := by simpa using hf
      rw [hfd] at hiv
      by_cases h1 : 1 ≤ count
      · by_cases h2 : count ≤ 1000
        · by_cases h3 : 0 ≤ held
          · by_cases h4 : held ≤ count
            · have e : keyCan ⟨name, count, fold, held⟩ = true := by simp [keyCan, hok, hf, h1, h2, h3, h4]
              rw [e]
              go_enter Tryz.func158, Tryz.ntmps158
              go_wp2_with (first | (go_at_call 78; refine hik.mono ?_; rintro _ w1 ⟨rfl, rfl⟩) | (go_at_call 110; refine hiv.mono ?_; rintro _ w1 ⟨rfl, rfl⟩))
              go_ret
              rw [← hW]
              exact ⟨rfl, c0⟩
            · have e : keyCan ⟨name, count, fold, held⟩ = false := by simp [keyCan, h4]
              rw [e]
              go_enter Tryz.func158, Tryz.ntmps158
              go_wp2_with (first | (go_at_call 78; refine hik.mono ?_; rintro _ w1 ⟨rfl, rfl⟩) | (go_at_call 110; refine hiv.mono ?_; rintro _ w1 ⟨rfl, rfl⟩))
              go_ret
              rw [← hW]
              exact ⟨by simp [h4], c0⟩
          · have e : keyCan ⟨name, count, fold, held⟩ = false := by simp [keyCan, h3]
            rw [e]
            go_enter Tryz.func158, Tryz.ntmps158
            go_wp2_with (first | (go_at_call 78; refine hik.mono ?_; rintro _ w1 ⟨rfl, rfl⟩) | (go_at_call 110; refine hiv.mono ?_; rintro _ w1 ⟨rfl, rfl⟩))
            go_ret
            rw [← hW]
            exact ⟨rfl, c0⟩
        · have e : keyCan ⟨name, count, fold, held⟩ = false := by simp [keyCan, h2]
          rw [e]
          go_enter Tryz.func158, Tryz.ntmps158
          go_wp2_with (first | (go_at_call 78; refine hik.mono ?_; rintro _ w1 ⟨rfl, rfl⟩) | (go_at_call 110; refine hiv.mono ?_; rintro _ w1 ⟨rfl, rfl⟩))
          go_ret
          rw [← hW]
          exact ⟨rfl, c0⟩
      · have e : keyCan ⟨name, count, fold, held⟩ = false := by simp [keyCan, h1]
        rw [e]
        go_enter Tryz.func158, Tryz.ntmps158
        go_wp2_with (first | (go_at_call 78; refine hik.mono ?_; rintro _ w1 ⟨rfl, rfl⟩) | (go_at_call 110; refine hiv.mono ?_; rintro _ w1 ⟨rfl, rfl⟩))
        go_ret
        rw [← hW]
        exact ⟨rfl, c0⟩
    · have hfd : decide (0 ≤ fold ∧ fold ≤ 4294967295) = false := by simpa using hf
      rw [hfd] at hiv
      have e : keyCan ⟨name, count, fold, held⟩ = false := by
        rcases Classical.not_and_iff_not_or_not.1 hf with h | h <;> simp [keyCan, h]
      rw [e]
      go_enter Tryz.func158, Tryz.ntmps158
      go_wp2_with (first | (go_at_call 78; refine hik.mono ?_; rintro _ w1 ⟨rfl, rfl⟩) | (go_at_call 110; refine hiv.mono ?_; rintro _ w1 ⟨rfl, rfl⟩))
      go_ret
      rw [← hW]
      exact ⟨rfl, c0⟩

theorem bless_leq : ∀ (a b : List UInt8), Op.bytesLess b a = !(Op.bytesLess a b || a == b)
  | [], [] => by simp [Op.bytesLess]
  | [], y :: b => by simp [Op.bytesLess]
  | x :: a, [] => by simp [Op.bytesLess]
  | x :: a, y :: b => by
    have ih := bless_leq a b
    simp only [Op.bytesLess]
    rcases Nat.lt_trichotomy x.toNat y.toNat with h | h | h
    · have h1 : x < y := UInt8.lt_iff_toNat_lt.2 h
      have h2 : ¬ y < x := fun g => by have := UInt8.lt_iff_toNat_lt.1 g; omega
      have h3 : ¬ y = x := fun g => by subst g; omega
      simp [h1, h2, h3]
    · have h0 : x = y := UInt8.toNat_inj.1 h
      subst h0
      have h1 : ¬ x < x := fun g => by have := UInt8.lt_iff_toNat_lt.1 g; omega
      simp only [h1, decide_false, Bool.false_or, beq_self_eq_true, Bool.true_and, ih]
      simp
    · have h1 : y < x := UInt8.lt_iff_toNat_lt.2 h
      have h2 : ¬ x < y := fun g => by have := UInt8.lt_iff_toNat_lt.1 g; omega
      have h3 : ¬ x = y := fun g => by subst g; omega
      simp [h1, h2, h3]

theorem less_leq (a b : ByteArray) : less b a = !(Op.bytesLess a.toList b.toList || a.toList == b.toList) := by
  rw [ByteArray.toList_eq, ByteArray.toList_eq]
  exact bless_leq _ _

theorem of_not {p q : Bool} (h : p = !q) : q = !p := by subst h; simp

theorem keyCan_count {k : Ky} (h : keyCan k = true) : 1 ≤ k.count ∧ k.count ≤ 1000 := by
  simp only [keyCan, Bool.and_eq_true, decide_eq_true_eq] at h
  exact ⟨h.1.1.1.2, h.1.1.2⟩

/-- Sessions with nothing that waits. -/
def sessRow : List (Int × Int) → List Value
  | [] => []
  | s :: r => .int .i64 s.1 :: .int .i64 s.2 :: .slice none 0 0 :: sessRow r

theorem sessRow_len : ∀ l : List (Int × Int), (sessRow l).length = l.length * 3
  | [] => rfl
  | s :: r => by simp [sessRow, sessRow_len r]; omega

theorem sessRow_append : ∀ a b : List (Int × Int), sessRow (a ++ b) = sessRow a ++ sessRow b
  | [], b => rfl
  | s :: r, b => by simp [sessRow, sessRow_append r b]

theorem sessRow_at : ∀ (l : List (Int × Int)) (i : Nat) (s : Int × Int), l[i]? = some s → (sessRow l)[i * 3]? = some (.int .i64 s.1) ∧ (sessRow l)[i * 3 + 1]? = some (.int .i64 s.2) ∧ (sessRow l)[i * 3 + 2]? = some (.slice none 0 0)
  | [], i, s, h => by simp at h
  | y :: r, 0, s, h => by simp at h; subst h; simp [sessRow]
  | y :: r, i + 1, s, h => by
    have := sessRow_at r i s (by simpa using h)
    rw [show (i + 1) * 3 = i * 3 + 1 + 1 + 1 by omega, show i * 3 + 1 + 1 + 1 + 1 = i * 3 + 1 + 1 + 1 + 1 by omega]
    simp only [sessRow, List.getElem?_cons_succ]
    exact this

theorem counts_step {ks : List Ky} {i : Nat} {k : Ky} (h : ks[i]? = some k) : counts (ks.take (i + 1)) = counts (ks.take i) + k.count := by
  induction ks generalizing i with
  | nil => simp at h
  | cons y r ih =>
    cases i with
    | zero => simp at h; subst h; simp [counts]
    | succ i =>
      have := ih (i := i) (by simpa using h)
      simp [counts, this]; omega

theorem bases_step {ss : List (Int × Int)} {i : Nat} {s : Int × Int} (h : ss[i]? = some s) : basesOf (ss.take (i + 1)) = basesOf (ss.take i) + s.2 := by
  induction ss generalizing i with
  | nil => simp at h
  | cons y r ih =>
    cases i with
    | zero => simp at h; subst h; simp [basesOf]
    | succ i =>
      have := ih (i := i) (by simpa using h)
      simp [basesOf, this]; omega

set_option maxRecDepth 100000 in
set_option maxHeartbeats 4000000 in
theorem canBe_any {w : World} {lo : Nat} {vs vk : Value} {ss : List (Int × Int)} {ks : List Ky} (hs : w.ownsRow lo 121 3 vs ss.length (sessRow ss)) (hk : w.ownsRow lo 87 4 vk ks.length (keyCells ks)) (h4 : ss.length = 4) (hk4 : ks.length ≤ 4) (hkn : ∀ k ∈ ks, k.name.size ≤ maxLen) :
    Calls Tryz.prog 130 #[.agg #[vs, vk]] w fun e w' => e = .returned (.bool (canBe ss ks)) ∧ Chg (fun _ => False) w w' := by
  obtain ⟨ps, cs, rfl⟩ := row_any hs
  obtain ⟨pk, ck, rfl⟩ := row_any hk
  obtain ⟨R, hR⟩ : ∃ R, R = canBe ss ks := ⟨_, rfl⟩
  have HR : Hid (R = (keysCan ⟨#[]⟩ ks && ss.all sessCan && decide (counts ks ≤ 1000) && decide (basesOf ss ≤ counts ks))) := by
    show _ = _
    rw [hR]; simp [canBe, h4, hk4]
  rw [← hR]
  clear hR
  have hk4' : ¬ (4 : Int) < (ks.length : Int) := by omega
  go_enter Tryz.func130, Tryz.ntmps130
  rw [h4] at hs ⊢
  go_wp2_with fail
  obtain ⟨W0, hW0⟩ : ∃ W0, W0 = w.alloc (.cells #[.slice ps 4 cs, .slice pk ks.length ck] 46) := ⟨_, rfl⟩
  have c0 : Chg (fun _ => False) w W0 := by rw [hW0]; exact (Chg.refl _ w).alloc _
  have a0 : W0.cell? ⟨w.heap.size, 0, none⟩ = some (.slice ps 4 cs) := by rw [hW0]; exact World.cell?_alloc_at _ _ _ _ rfl
  rw [← hW0]
  clear hW0
  go_loopw [3, 4, 6, 23] (fun st sl _ si wr => ∃ (i : Nat) (last : ByteArray), si = .int .i64 i ∧ st = .int .i64 (counts (ks.take i)) ∧ sl = .string last ∧ i ≤ ks.length ∧ 0 ≤ counts (ks.take i) ∧ counts (ks.take i) ≤ i * 1000 ∧ Chg (fun _ => False) W0 wr ∧ Hid (keysCan ⟨#[]⟩ ks = keysCan last (ks.drop i))) (fun _ _ _ si _ => ks.length - (intOf si).toNat)
  case atStart => exact ⟨0, ⟨#[]⟩, rfl, by simp [counts], rfl, by omega, by simp [counts], by simp [counts], Chg.refl _ _, rfl⟩
  case round =>
    obtain ⟨i, last, rfl, rfl, rfl, hil, hc0, hc1, hcg, HK⟩ := hrel
    by_cases hlt : i < ks.length
    · have hlt' : (i : Int) < (ks.length : Int) := by omega
      obtain ⟨x, hx⟩ : ∃ x, ks[i]? = some x := ⟨_, List.getElem?_eq_getElem hlt⟩
      have cx := keyCells_at ks i x hx
      obtain ⟨g, cap', hv, hlg, _, hcell⟩ := row_pos hk (by omega)
      simp only [Value.slice.injEq] at hv
      obtain ⟨rfl, _, rfl⟩ := hv
      have b0 := (c0.trans hcg (fun _ _ h => h)).cellAt (hcell _ _ cx.1) id
      have b1 := (c0.trans hcg (fun _ _ h => h)).cellAt (hcell _ _ cx.2.1) id
      have b2 := (c0.trans hcg (fun _ _ h => h)).cellAt (hcell _ _ cx.2.2.1) id
      have b3 := (c0.trans hcg (fun _ _ h => h)).cellAt (hcell _ _ cx.2.2.2) id
      have hxm : x.name.size ≤ maxLen := hkn x (List.mem_of_getElem? hx)
      have hdrop : ks.drop i = x :: ks.drop (i + 1) := by
        rw [List.drop_eq_getElem_cons hlt]
        congr 1
        rw [List.getElem?_eq_getElem hlt] at hx
        exact Option.some.inj hx
      have hcs := counts_step hx
      have HK' : Hid (keysCan ⟨#[]⟩ ks = (keyCan x && less last x.name && keysCan x.name (ks.drop (i + 1)))) := by
        show _ = _
        rw [HK.out, hdrop]; rfl
      clear hdrop HK hcell cx
      obtain ⟨W1, hW1⟩ : ∃ W1, W1 = wr.alloc (.cells #[.string x.name, .int .i64 x.count, .int .i64 x.fold, .int .i64 x.held] 87) := ⟨_, rfl⟩
      have c1 : Chg (fun _ => False) wr W1 := by rw [hW1]; exact (Chg.refl _ wr).alloc _
      have hkc := keyCanBe_any x W1 hxm
      have d0 : W1.cell? ⟨wr.heap.size, 0, none⟩ = some (.string x.name) := by rw [hW1]; exact World.cell?_alloc_at _ _ _ _ rfl
      have d1 : W1.cell? ⟨wr.heap.size, 1, none⟩ = some (.int .i64 x.count) := by rw [hW1]; exact World.cell?_alloc_at _ _ _ _ rfl
      have HW1 : Hid (W1 = wr.alloc (.cells #[.string x.name, .int .i64 x.count, .int .i64 x.fold, .int .i64 x.held] 87)) := hW1
      go_wp2_with fail
      rw [← HW1.out]
      clear hW1
      have hcW : Chg (fun _ => False) W0 W1 := hcg.trans c1 (fun _ _ h => h)
      cases hkx : keyCan x with
      | false =>
        rw [hkx] at hkc
        refine hkc.mono ?_
        rintro _ w2 ⟨rfl, c2⟩
        go_wp2_with fail
        go_ret
        have e : R = false := by rw [HR.out, HK'.out, hkx]; simp
        exact ⟨by rw [e]; rfl, (c0.trans hcW (fun _ _ h => h)).trans c2 (fun _ _ h => h)⟩
      | true =>
        have hx1000 := (keyCan_count hkx)
        rw [hkx] at hkc
        refine hkc.mono ?_
        rintro _ w2 ⟨rfl, c2⟩
        have f0 := c2.cellAt d0 id
        have f1 := c2.cellAt d1 id
        clear d0 d1
        have htri := of_not (less_leq x.name last)
        cases hlx : less last x.name with
        | false =>
          rw [hlx] at htri
          have hor : (Op.bytesLess x.name.toList last.toList || x.name.toList == last.toList) = true := htri
          go_wp2_with fail
          go_ret
          have e : R = false := by rw [HR.out, HK'.out, hlx]; simp
          exact ⟨by rw [e]; rfl, (c0.trans hcW (fun _ _ h => h)).trans c2 (fun _ _ h => h)⟩
        | true =>
          rw [hlx] at htri
          have hor : (Op.bytesLess x.name.toList last.toList || x.name.toList == last.toList) = false := htri
          go_wp2_with fail
          go_quiet (fail)
          have hw1 : wrap64 (counts (ks.take i) + x.count) = counts (ks.take i) + x.count := by unfold wrap64; omega
          go_wp2_with fail
          have cq : Chg (fun _ => False) w2 (w2.drewN nq) := ((Quiet.refl w2).drewN nq).chg _
          go_roundw
          case rel => exact ⟨i + 1, x.name, by go_num, by rw [hcs], rfl, by omega, by rw [hcs]; omega, by rw [hcs]; omega, (hcW.trans c2 (fun _ _ h => h)).trans cq (fun _ _ h => h), by rw [HK'.out, hkx, hlx]; rfl⟩
          case measure => simp [intOf]; omega
    · have hlt' : ¬ (i : Int) < (ks.length : Int) := by omega
      have hi : i = ks.length := by omega
      have HS : Hid (counts (ks.take i) = counts ks) := by show _ = _; rw [hi, List.take_length]
      have HKe : Hid (keysCan ⟨#[]⟩ ks = true) := by
        show _ = _
        rw [HK.out, hi, List.drop_length]; rfl
      have g0 := hcg.cellAt a0 id
      have hc0' : Chg (fun _ => False) w wr := c0.trans hcg (fun _ _ h => h)
      clear HK hi
      generalize counts (ks.take i) = C at hc0 hc1 HS ⊢
      have hC4 : C ≤ 4000 := by omega
      obtain ⟨g, cap', hv, hlg, _, hcell⟩ := row_pos hs (by omega)
      simp only [Value.slice.injEq] at hv
      obtain ⟨rfl, _, rfl⟩ := hv
      go_wp2_with fail
      go_loopw [7, 9, 46] (fun sb _ sj w2 => ∃ (j : Nat), sj = .int .i64 j ∧ sb = .int .i64 (basesOf (ss.take j)) ∧ j ≤ 4 ∧ 0 ≤ basesOf (ss.take j) ∧ basesOf (ss.take j) ≤ j * 1000 ∧ Chg (fun _ => False) wr w2 ∧ Hid (ss.all sessCan = (ss.drop j).all sessCan)) (fun _ _ sj _ => 4 - (intOf sj).toNat)
      case atStart => exact ⟨0, rfl, by simp [basesOf], by omega, by simp [basesOf], by simp [basesOf], Chg.refl _ _, rfl⟩
      case round =>
        obtain ⟨j, rfl, rfl, hj, hb0, hb1, hcj, HA⟩ := hrel
        by_cases hjl : j < 4
        · have hjl' : (j : Int) < 4 := by omega
          obtain ⟨y, hy⟩ : ∃ y, ss[j]? = some y := ⟨_, List.getElem?_eq_getElem (by omega)⟩
          obtain ⟨ye, yb⟩ := y
          have cy := sessRow_at ss j _ hy
          have hcc := hc0'.trans hcj (fun _ _ h => h)
          have p0 := hcc.cellAt (hcell _ _ cy.1) id
          have p1 := hcc.cellAt (hcell _ _ cy.2.1) id
          have p2 := hcc.cellAt (hcell _ _ cy.2.2) id
          have hbs := bases_step hy
          have HA' : Hid (ss.all sessCan = (sessCan (ye, yb) && (ss.drop (j + 1)).all sessCan)) := by
            show _ = _
            rw [HA.out, List.drop_eq_getElem_cons (by omega), List.all_cons]
            rw [List.getElem?_eq_getElem (by omega)] at hy
            rw [Option.some.inj hy]
          clear HA cy hcell
          simp only at p0 p1 hbs
          obtain ⟨W1, hW1⟩ : ∃ W1, W1 = wr.alloc (.cells #[.int .i64 ye, .int .i64 yb, .slice none 0 0] 121) := ⟨_, rfl⟩
          have c1 : Chg (fun _ => False) wr W1 := by rw [hW1]; exact (Chg.refl _ wr).alloc _
          by_cases h1 : ye < 0
          · have e : Hid (R = false) := by
              show _ = _
              rw [HR.out, HA'.out]; simp [sessCan]; omega
            go_wp2_with fail
            go_ret
            exact ⟨by rw [e.out]; rfl, by rw [← hW1]; exact hcc.trans c1 (fun _ _ h => h)⟩
          · by_cases h2 : yb < 0
            · have e : Hid (R = false) := by
                show _ = _
                rw [HR.out, HA'.out]; simp [sessCan]; omega
              go_wp2_with fail
              go_ret
              exact ⟨by rw [e.out]; rfl, by rw [← hW1]; exact hcc.trans c1 (fun _ _ h => h)⟩
            · by_cases h3 : 1000 < yb
              · have e : Hid (R = false) := by
                  show _ = _
                  rw [HR.out, HA'.out]; simp [sessCan]; omega
                go_wp2_with fail
                go_ret
                exact ⟨by rw [e.out]; rfl, by rw [← hW1]; exact hcc.trans c1 (fun _ _ h => h)⟩
              · have hs1 : sessCan (ye, yb) = true := by simp [sessCan]; omega
                have hw1 : wrap64 (basesOf (ss.take j) + yb) = basesOf (ss.take j) + yb := by unfold wrap64; omega
                go_wp2_with fail
                go_roundw
                case rel => exact ⟨j + 1, by go_num, by rw [hbs], by omega, by rw [hbs]; omega, by rw [hbs]; omega, by rw [← hW1]; exact hcj.trans c1 (fun _ _ h => h), by rw [HA'.out, hs1]; rfl⟩
                case measure => simp [intOf]; omega
        · have hj4 : j = 4 := by omega
          subst hj4
          have HB : Hid (basesOf (ss.take 4) = basesOf ss) := by show _ = _; rw [List.take_of_length_le (by omega)]
          have HAe : Hid (ss.all sessCan = true) := by
            show _ = _
            rw [HA.out, List.drop_eq_nil_of_le (by omega)]; rfl
          clear HA
          generalize basesOf (ss.take 4) = D at hb0 hb1 HB ⊢
          have e : Hid (R = (decide (C ≤ 1000) && decide (D ≤ C))) := by
            show _ = _
            rw [HR.out, HKe.out, HAe.out, HS.out, HB.out]; rfl
          by_cases h1 : C ≤ 1000
          · by_cases h2 : D ≤ C
            · go_wp2_with fail
              go_ret
              exact ⟨by rw [e.out]; simp [h1, h2], hc0'.trans hcj (fun _ _ h => h)⟩
            · go_wp2_with fail
              go_ret
              exact ⟨by rw [e.out]; simp [h1, h2], hc0'.trans hcj (fun _ _ h => h)⟩
          · go_wp2_with fail
            go_ret
            exact ⟨by rw [e.out, decide_eq_false (show ¬ C ≤ 1000 by omega)]; simp, hc0'.trans hcj (fun _ _ h => h)⟩

end Go.Proofs.YthedkdbgfdjlkaaGreatDoor

/- What was written is read again; what was cut is seen. Pure. -/
namespace Go.Proofs.YthedkdbgfdjlkaaGreatDoor
set_option linter.unusedVariables false
set_option linter.unusedSimpArgs false

/-- X stands in the row from a on. -/
def Stands (row : ByteArray) (a : Nat) (X : List UInt8) : Prop := ∃ Z, row.data.toList.drop a = X ++ Z
/-- The row ends within X, which begins at a. -/
def Ends (row : ByteArray) (a : Nat) (X : List UInt8) : Prop := a ≤ row.size ∧ ∃ Y, Y ≠ [] ∧ row.data.toList.drop a ++ Y = X

theorem row_len (row : ByteArray) : row.data.toList.length = row.size := Array.length_toList

theorem Stands.split {row : ByteArray} {a : Nat} {X Y : List UInt8} (h : Stands row a (X ++ Y)) : Stands row a X ∧ Stands row (a + X.length) Y := by
  obtain ⟨Z, h⟩ := h
  refine ⟨⟨Y ++ Z, by rw [h, List.append_assoc]⟩, Z, ?_⟩
  rw [← List.drop_drop, h, List.append_assoc, List.drop_left]
theorem Stands.size {row : ByteArray} {a : Nat} {X : List UInt8} (h : Stands row a X) (ha : a ≤ row.size) : a + X.length ≤ row.size := by
  obtain ⟨Z, h⟩ := h
  have h1 := congrArg List.length h
  rw [List.length_drop, row_len, List.length_append] at h1
  omega
theorem Stands.inside {row : ByteArray} {a : Nat} {X : List UInt8} (h : Stands row a X) (hX : X ≠ []) : a ≤ row.size := by
  obtain ⟨Z, h⟩ := h
  have h1 := congrArg List.length h
  rw [List.length_drop, row_len, List.length_append] at h1
  have := List.length_pos_iff.2 hX
  omega
theorem Ends.split {row : ByteArray} {a : Nat} {X Y : List UInt8} (h : Ends row a (X ++ Y)) : Ends row a X ∨ (Stands row a X ∧ Ends row (a + X.length) Y) := by
  obtain ⟨ha, Z, hZ, h⟩ := h
  have hl : (row.data.toList.drop a).length = row.size - a := by rw [List.length_drop, row_len]
  rcases List.append_eq_append_iff.1 h with ⟨us, h1, h2⟩ | ⟨bs, h1, h2⟩
  · by_cases has : us = []
    · subst has
      simp at h1 h2
      refine .inr ⟨⟨[], by simp [h1]⟩, by rw [h1, hl]; omega, Z, hZ, ?_⟩
      rw [← List.drop_drop, h1, List.drop_length, List.nil_append, h2]
    · exact .inl ⟨ha, us, has, h1.symm⟩
  · have hs : Stands row a X := ⟨bs, h1⟩
    refine .inr ⟨hs, hs.size ha, Z, hZ, ?_⟩
    rw [← List.drop_drop, h1, List.drop_left, h2]

def cutErr (r : Rs) : Prop := ∃ p, r.err = some (p, 1)
theorem Rs.on.cut {row : ByteArray} {r r' : Rs} (h : Rs.on row r r') (c : cutErr r) : cutErr r' := by
  obtain ⟨p, hp⟩ := c
  rw [h.stuck _ hp]
  exact ⟨p, hp⟩

theorem text_full {row : ByteArray} {a : Nat} {X : List UInt8} (h : Stands row a X) (ha : a ≤ row.size) : rText row X.length ⟨a, none⟩ = (⟨X.toArray⟩, ⟨a + X.length, none⟩) := by
  have hs := h.size ha
  rw [rText_ok row X.length ⟨a, none⟩ rfl (by simp only; omega)]
  congr 1
  obtain ⟨Z, h⟩ := h
  apply ByteArray.ext
  rw [ByteArray.data_extract]
  apply Array.toList_inj.1
  rw [Array.toList_extract]
  simp only [List.extract_eq_take_drop, Nat.add_sub_cancel_left]
  rw [h, List.take_left]
theorem text_cut {row : ByteArray} {a n : Nat} {X : List UInt8} (h : Ends row a X) (hn : X.length = n) : rText row n ⟨a, none⟩ = (⟨#[]⟩, ⟨a, some (a, 1)⟩) := by
  obtain ⟨ha, Y, hY, h⟩ := h
  have h1 := congrArg List.length h
  rw [List.length_append, List.length_drop, row_len] at h1
  have := List.length_pos_iff.2 hY
  exact rText_cut row n ⟨a, none⟩ rfl (by simp only; omega)

theorem encNum_ne (n : Nat) : encNum n ≠ [] := by
  by_cases h : n < 128
  · rw [encNum_small h]; simp
  · rw [encNum_big h]; simp

theorem numFrom_full {row : ByteArray} : ∀ (k n a sh sum : Nat), n < 128 ^ (k + 1) → Stands row a (encNum n) → rNumFrom row (k + 1) sh sum ⟨a, none⟩ = (sum + n * 2 ^ sh, ⟨a + (encNum n).length, none⟩)
  | k, n, a, sh, sum, hn, h => by
    have ha := h.inside (encNum_ne n)
    by_cases hs : n < 128
    · rw [encNum_small hs] at h ⊢
      have ht := text_full h ha
      simp only [List.length_cons, List.length_nil, Nat.zero_add] at ht ⊢
      have hc : n.toUInt8.toNat = n := by simp [Nat.toUInt8]; omega
      unfold rNumFrom
      rw [ht]
      simp only [hc, hs, if_true, Nat.mod_eq_of_lt hs]
    · have e := encNum_big hs
      rw [e] at h ⊢
      have h2 : Stands row a ([(n % 128 + 128).toUInt8] ++ encNum (n / 128)) := h
      obtain ⟨g1, g2⟩ := h2.split
      have ht := text_full g1 ha
      simp only [List.length_cons, List.length_nil, Nat.zero_add] at ht g2 ⊢
      have hc : (n % 128 + 128).toUInt8.toNat = n % 128 + 128 := by simp [Nat.toUInt8]; omega
      unfold rNumFrom
      rw [ht]
      have hcn : ¬ n % 128 + 128 < 128 := by omega
      have hcm : (n % 128 + 128) % 128 = n % 128 := by omega
      simp only [hc, hcn, if_false, hcm]
      cases k with
      | zero => exact absurd hn (by omega)
      | succ k =>
        rw [numFrom_full k (n / 128) (a + 1) (sh + 7) _ (by rw [Nat.pow_succ] at hn; omega) g2]
        have hp : 2 ^ (sh + 7) = 128 * 2 ^ sh := by rw [Nat.pow_add]; omega
        have hd : n = n % 128 + 128 * (n / 128) := by omega
        congr 1
        · rw [hp]
          have : n * 2 ^ sh = n % 128 * 2 ^ sh + n / 128 * (128 * 2 ^ sh) := by
            rw [show n / 128 * (128 * 2 ^ sh) = 128 * (n / 128) * 2 ^ sh by rw [← Nat.mul_assoc, Nat.mul_comm (n / 128) 128], ← Nat.add_mul]
            congr 1
          rw [this]; omega
        · congr 1; omega

theorem numFrom_cut {row : ByteArray} : ∀ (k n a sh sum : Nat), n < 128 ^ (k + 1) → Ends row a (encNum n) → cutErr (rNumFrom row (k + 1) sh sum ⟨a, none⟩).2
  | k, n, a, sh, sum, hn, h => by
    by_cases hs : n < 128
    · rw [encNum_small hs] at h
      have ht := text_cut h rfl
      simp only [List.length_cons, List.length_nil, Nat.zero_add] at ht
      unfold rNumFrom
      rw [ht]
      exact ⟨a, rfl⟩
    · have e := encNum_big hs
      rw [e] at h
      have h2 : Ends row a ([(n % 128 + 128).toUInt8] ++ encNum (n / 128)) := h
      rcases h2.split with g | ⟨g1, g2⟩
      · have ht := text_cut g rfl
        simp only [List.length_cons, List.length_nil, Nat.zero_add] at ht
        unfold rNumFrom
        rw [ht]
        exact ⟨a, rfl⟩
      · have ht := text_full g1 h.1
        simp only [List.length_cons, List.length_nil, Nat.zero_add] at ht g2
        have hc : (n % 128 + 128).toUInt8.toNat = n % 128 + 128 := by simp [Nat.toUInt8]; omega
        unfold rNumFrom
        rw [ht]
        have hcn : ¬ n % 128 + 128 < 128 := by omega
        simp only [hc, hcn, if_false]
        cases k with
        | zero => exact absurd hn (by omega)
        | succ k => exact numFrom_cut k (n / 128) (a + 1) (sh + 7) _ (by rw [Nat.pow_succ] at hn; omega) g2

theorem num_full {row : ByteArray} {a : Nat} {z : Int} (h0 : 0 ≤ z) (h1 : z ≤ 9223372036854775807) (h : Stands row a (encInt z)) : rNum row ⟨a, none⟩ = (z.toNat, ⟨a + (encInt z).length, none⟩) := by
  have := numFrom_full 8 z.toNat a 0 0 (by rw [show 128 ^ (8 + 1) = 9223372036854775808 from rfl]; omega) h
  simpa [rNum, encInt] using this
theorem num_cut {row : ByteArray} {a : Nat} {z : Int} (h1 : z ≤ 9223372036854775807) (h : Ends row a (encInt z)) : cutErr (rNum row ⟨a, none⟩).2 :=
  numFrom_cut 8 z.toNat a 0 0 (by rw [show 128 ^ (8 + 1) = 9223372036854775808 from rfl]; omega) h

theorem upTo_full {row : ByteArray} {a n : Nat} {z : Int} (h0 : 0 ≤ z) (hz : z ≤ n) (hn : n ≤ 1000) (h : Stands row a (encInt z)) : rUpTo row n ⟨a, none⟩ = (z.toNat, ⟨a + (encInt z).length, none⟩) := by
  unfold rUpTo
  rw [num_full h0 (by omega) h, if_neg (by simp only; omega)]
theorem upTo_cut {row : ByteArray} {a n : Nat} {z : Int} (h1 : z ≤ 9223372036854775807) (h : Ends row a (encInt z)) : cutErr (rUpTo row n ⟨a, none⟩).2 := by
  have hc := num_cut h1 h
  unfold rUpTo
  split
  · exact (Rs.on.fail row _ 2).cut hc
  · exact hc

theorem key_full {row : ByteArray} {a : Nat} {k : ByteArray} (hk : k.size ≤ 6) (h : Stands row a (encKey k)) : rKey row ⟨a, none⟩ = (k, ⟨a + (encKey k).length, none⟩) := by
  unfold encKey at h
  obtain ⟨g1, g2⟩ := h.split
  have e : encNum k.size = encInt (k.size : Int) := by simp [encInt]
  have ha := g1.size (g1.inside (encNum_ne _))
  rw [e] at g1 g2 ha
  have h1 := upTo_full (n := 6) (by omega) (by omega) (by omega) g1
  have h2 := text_full g2 ha
  have h3 : k.data.toList.length = k.size := Array.length_toList
  rw [h3] at h2
  unfold rKey
  rw [h1]
  simp only [Int.toNat_natCast]
  rw [h2]
  unfold encKey
  rw [List.length_append, h3, e]
  simp only [Array.toArray_toList]
  rw [Nat.add_assoc]
theorem key_cut {row : ByteArray} {a : Nat} {k : ByteArray} (hk : k.size ≤ 6) (h : Ends row a (encKey k)) : cutErr (rKey row ⟨a, none⟩).2 := by
  unfold encKey at h
  have e : encNum k.size = encInt (k.size : Int) := by simp [encInt]
  have h3 : k.data.toList.length = k.size := Array.length_toList
  rcases h.split with g | ⟨g1, g2⟩
  · rw [e] at g
    exact (Rs.on.text row _ _).cut (upTo_cut (n := 6) (by omega) g)
  · rw [e] at g1 g2
    have h1 := upTo_full (n := 6) (by omega) (by omega) (by omega) g1
    unfold rKey
    rw [h1]
    simp only [Int.toNat_natCast]
    rw [text_cut g2 h3]
    exact ⟨_, rfl⟩

/-- What can be written of a record. -/
structure Rec.tidy (x : Rec) : Prop where
  session : 0 ≤ x.session ∧ x.session ≤ 9223372036854775807
  epoch : 0 ≤ x.epoch ∧ x.epoch ≤ 9223372036854775807
  number : 0 ≤ x.number ∧ x.number ≤ 9223372036854775807
  value : 0 ≤ x.value ∧ x.value ≤ 9223372036854775807
  key : x.key.size ≤ 6

theorem encRec_form (x : Rec) : encRec x = encInt x.session ++ (encInt x.epoch ++ (encInt x.number ++ (encKey x.key ++ encInt x.value))) := by
  simp [encRec, encInts]

theorem rec_full {row : ByteArray} {a : Nat} {x : Rec} (hx : x.tidy) (h : Stands row a (encRec x)) : rRec row ⟨a, none⟩ = (x, ⟨a + (encRec x).length, none⟩) := by
  rw [encRec_form] at h ⊢
  obtain ⟨g1, h⟩ := h.split
  obtain ⟨g2, h⟩ := h.split
  obtain ⟨g3, h⟩ := h.split
  obtain ⟨g4, g5⟩ := h.split
  have e1 := num_full hx.session.1 hx.session.2 g1
  have e2 := num_full hx.epoch.1 hx.epoch.2 g2
  have e3 := num_full hx.number.1 hx.number.2 g3
  have e4 := key_full hx.key g4
  have e5 := num_full hx.value.1 hx.value.2 g5
  simp only [rRec, e1, e2, e3, e4, e5, List.length_append]
  refine Prod.ext ?_ ?_
  · obtain ⟨s, e, n, k, v⟩ := x
    have h1 := hx.session.1
    have h2 := hx.epoch.1
    have h3 := hx.number.1
    have h4 := hx.value.1
    simp only [Rec.mk.injEq, true_and] at h1 h2 h3 h4 ⊢
    omega
  · simp only [Rs.mk.injEq, and_true]; omega

theorem rec_cut {row : ByteArray} {a : Nat} {x : Rec} (hx : x.tidy) (h : Ends row a (encRec x)) : cutErr (rRec row ⟨a, none⟩).2 := by
  rw [encRec_form] at h
  rcases h.split with g | ⟨g1, h⟩
  · exact ((((Rs.on.num row _).trans (Rs.on.num row _)).trans (Rs.on.key row _)).trans (Rs.on.num row _)).cut (num_cut hx.session.2 g)
  have e1 := num_full hx.session.1 hx.session.2 g1
  rcases h.split with g | ⟨g2, h⟩
  · simp only [rRec, e1]
    exact (((Rs.on.num row _).trans (Rs.on.key row _)).trans (Rs.on.num row _)).cut (num_cut hx.epoch.2 g)
  have e2 := num_full hx.epoch.1 hx.epoch.2 g2
  rcases h.split with g | ⟨g3, h⟩
  · simp only [rRec, e1, e2]
    exact ((Rs.on.key row _).trans (Rs.on.num row _)).cut (num_cut hx.number.2 g)
  have e3 := num_full hx.number.1 hx.number.2 g3
  rcases h.split with g | ⟨g4, g5⟩
  · simp only [rRec, e1, e2, e3]
    exact (Rs.on.num row _).cut (key_cut hx.key g)
  have e4 := key_full hx.key g4
  simp only [rRec, e1, e2, e3, e4]
  exact num_cut hx.value.2 g5

/-- What can be written of a key. -/
structure Ky.tidy (k : Ky) : Prop where
  count : 0 ≤ k.count ∧ k.count ≤ 9223372036854775807
  fold : 0 ≤ k.fold ∧ k.fold ≤ 9223372036854775807
  held : 0 ≤ k.held ∧ k.held ≤ 9223372036854775807
  name : k.name.size ≤ 6

theorem encKy_form (k : Ky) : encKy k = encKey k.name ++ (encInt k.count ++ (encInt k.fold ++ encInt k.held)) := by simp [encKy, encInts]

theorem ky_full {row : ByteArray} {a : Nat} {k : Ky} (hk : k.tidy) (h : Stands row a (encKy k)) : rKy row ⟨a, none⟩ = (k, ⟨a + (encKy k).length, none⟩) := by
  rw [encKy_form] at h ⊢
  obtain ⟨g1, h⟩ := h.split
  obtain ⟨g2, h⟩ := h.split
  obtain ⟨g3, g4⟩ := h.split
  have e1 := key_full hk.name g1
  have e2 := num_full hk.count.1 hk.count.2 g2
  have e3 := num_full hk.fold.1 hk.fold.2 g3
  have e4 := num_full hk.held.1 hk.held.2 g4
  simp only [rKy, e1, e2, e3, e4, List.length_append]
  refine Prod.ext ?_ ?_
  · obtain ⟨s, e, n, v⟩ := k
    have h1 := hk.count.1
    have h2 := hk.fold.1
    have h3 := hk.held.1
    simp only [Ky.mk.injEq, true_and] at h1 h2 h3 ⊢
    omega
  · simp only [Rs.mk.injEq, and_true]; omega

theorem pair_full {row : ByteArray} {a : Nat} {l : Ln} (h1 : 0 ≤ l.epoch ∧ l.epoch ≤ 9223372036854775807) (h2 : 0 ≤ l.base ∧ l.base ≤ 9223372036854775807) (h : Stands row a (encSess l)) : rPair row ⟨a, none⟩ = ((l.epoch, l.base), ⟨a + (encSess l).length, none⟩) := by
  have e : encSess l = encInt l.epoch ++ encInt l.base := by simp [encSess, encInts]
  rw [e] at h ⊢
  obtain ⟨g1, g2⟩ := h.split
  have e1 := num_full h1.1 h1.2 g1
  have e2 := num_full h2.1 h2.2 g2
  simp only [rPair, e1, e2, List.length_append]
  refine Prod.ext ?_ ?_
  · simp only [Prod.mk.injEq]; omega
  · simp only [Rs.mk.injEq, and_true]; omega

/-- A list of them. -/
theorem many_full {α β : Type} {row : ByteArray} {f : Rs → β × Rs} {enc : α → List UInt8} {g : α → β} : ∀ (l : List α) (a : Nat), (∀ x ∈ l, ∀ a, Stands row a (enc x) → f ⟨a, none⟩ = (g x, ⟨a + (enc x).length, none⟩)) → Stands row a (l.flatMap enc) →
    ∀ k, k ≤ l.length → rMany f k ⟨a, none⟩ = ((l.take k).map g, ⟨a + ((l.take k).flatMap enc).length, none⟩)
  | l, a, hf, h, 0, _ => by simp [rMany]
  | l, a, hf, h, k + 1, hk => by
    have ih := many_full l a hf h k (by omega)
    have hx : l[k]? = some l[k] := List.getElem?_eq_getElem (by omega)
    have ht : l.take (k + 1) = l.take k ++ [l[k]] := by rw [List.take_add_one, hx]; rfl
    have hs : Stands row a ((l.take (k + 1)).flatMap enc) := by
      rw [← List.take_append_drop (k + 1) l, List.flatMap_append] at h
      exact h.split.1
    rw [ht, List.flatMap_append] at hs
    have g2 := hs.split.2
    simp only [List.flatMap_cons, List.flatMap_nil, List.append_nil] at g2
    have e := hf l[k] (List.getElem_mem _) _ g2
    simp only [rMany, ih, e, ht, List.map_append, List.map_cons, List.map_nil, List.flatMap_append, List.length_append, List.flatMap_cons, List.flatMap_nil, List.append_nil]
    rw [Nat.add_assoc]

end Go.Proofs.YthedkdbgfdjlkaaGreatDoor

/- A head tells its state again; entries too; what a row of bytes tells. Pure. -/
namespace Go.Proofs.YthedkdbgfdjlkaaGreatDoor
set_option linter.unusedVariables false
set_option linter.unusedSimpArgs false

/-- All that holds of a state that a relay can be in. -/
structure St.tidy (s : St) : Prop where
  fine : s.fine
  good : s.good
  sound : s.sound
  many : distinct s.names ≤ 4
  fold : ∀ k ∈ s.keys, 0 ≤ k.fold ∧ k.fold ≤ 4294967295

def recOf (i : Nat) (e : Int) (y : Wt) : Rec := ⟨i, e, y.num, y.key, y.val⟩

theorem putW_last : ∀ (ws : List Wt) (y : Wt), (∀ z ∈ ws, z.num < y.num) → putW y ws = ws ++ [y]
  | [], y, _ => rfl
  | z :: r, y, h => by
    have h1 := h z (by simp)
    have h2 : ¬ y.num < z.num := by omega
    simp only [putW, if_neg h2, List.cons_append]
    rw [putW_last r y (fun w hw => h w (by simp [hw]))]

theorem drainW_none (b : Int) (ws : List Wt) (ks : List Ky) (h : ∀ z ∈ ws, b < z.num) : drainW b ws ks = (b, ws, ks) := by
  cases ws with
  | nil => rfl
  | cons z r =>
    have := h z (by simp)
    have h2 : ¬ z.num = b := by omega
    simp only [drainW, if_neg h2]

/-- One that must wait waits. -/
theorem accept_waits {t : St} {i : Nat} {l : Ln} (hi : i < 4) (hl : t.lanes[i]? = some l) {y : Wt} (hy : y.sound) (hb : 0 ≤ l.base) (hw : l.base < y.num ∧ y.num < l.base + 4) (hlast : ∀ z ∈ l.ws, z.num < y.num) (habove : ∀ z ∈ l.ws, l.base < z.num)
    (hm : ¬ (isIn y.key t.names = false ∧ 4 ≤ distinct t.names)) (hr : t.records < 1000) :
    accept t (recOf i l.epoch y) = ((l.base, 0), ⟨t.lanes.set i ⟨l.epoch, l.base, l.ws ++ [y]⟩, t.keys⟩) := by
  obtain ⟨h1, h2, h3⟩ := hy
  have hl' : t.lanes[((i : Int)).toNat]? = some l := by simpa using hl
  have hset : t.lanes.set i l = t.lanes := by
    apply List.ext_getElem?
    intro j
    rw [List.getElem?_set]
    split
    · rename_i e; subst e
      rw [hl]
      simp [(List.getElem?_eq_some_iff.1 hl).1]
    · rfl
  have hany : l.ws.any (fun z => z.num == y.num) = false := by
    rw [List.any_eq_false]
    intro z hz
    have := hlast z hz
    simp
    omega
  unfold accept recOf
  simp only
  rw [if_neg (by omega), if_neg (by rw [h1]; simp; omega)]
  split
  · rename_i e; rw [hl'] at e; cases e
  · rename_i l0 e
    rw [hl'] at e; cases e
    have ht : l.turned l.epoch = l := by unfold Ln.turned; rw [if_neg (by omega)]
    unfold acceptIn
    simp only [ht, Int.toNat_natCast]
    rw [if_neg (by omega), if_neg (by omega), if_neg (by rw [hany]; simp; omega), hset, if_neg hm, if_neg (by show ¬ 1000 ≤ t.records; omega)]
    rw [putW_last _ _ hlast, drainW_none l.base (l.ws ++ [y]) t.keys (fun z hz => by
      rcases List.mem_append.1 hz with h | h
      · exact habove z h
      · simp at h; subst h; exact hw.1)]

/-- A session's records, one behind another. -/
theorem fill {ks : List Ky} {i : Nat} (C : Ln → List Ln) (hi : i < 4) (hC : ∀ l, (C l)[i]? = some l) (hset : ∀ l l', (C l).set i l' = C l') {w0 : Int} (hw : ∀ l, waits (C l) = w0 + l.ws.length)
    {N : List ByteArray} (hN : distinct N ≤ 4) {l : Ln} (hn : ∀ j k, k ∈ (⟨C ⟨l.epoch, l.base, l.ws.take j⟩, ks⟩ : St).names → k ∈ N) (hlN : ∀ y ∈ l.ws, y.key ∈ N) (hb : 0 ≤ l.base) (hup : l.ws.Pairwise fun a b => a.num < b.num) (hwin : ∀ y ∈ l.ws, l.base < y.num ∧ y.num < l.base + 4) (hsd : ∀ y ∈ l.ws, y.sound)
    (htot : counts ks + w0 + l.ws.length ≤ 1000) (R : List Rec) : ∀ (m j : Nat), j + m = l.ws.length → acceptAll ⟨C ⟨l.epoch, l.base, l.ws.take j⟩, ks⟩ ((l.ws.drop j).map (recOf i l.epoch) ++ R) = acceptAll ⟨C l, ks⟩ R
  | 0, j, h => by
    rw [List.drop_eq_nil_of_le (by omega), List.take_of_length_le (by omega)]
    rfl
  | m + 1, j, h => by
    have hj : j < l.ws.length := by omega
    have hd : l.ws.drop j = l.ws[j] :: l.ws.drop (j + 1) := List.drop_eq_getElem_cons hj
    have hmem : l.ws[j] ∈ l.ws := List.getElem_mem hj
    have ht : l.ws.take (j + 1) = l.ws.take j ++ [l.ws[j]] := by rw [List.take_add_one, List.getElem?_eq_getElem hj]; rfl
    have hlast : ∀ z ∈ l.ws.take j, z.num < l.ws[j].num := fun z hz => by
      obtain ⟨p, hp, e⟩ := List.getElem_of_mem hz
      rw [List.length_take] at hp
      rw [List.getElem_take] at e
      subst e
      exact List.pairwise_iff_getElem.1 hup p j (by omega) hj (by omega)
    have hrec : (⟨C ⟨l.epoch, l.base, l.ws.take j⟩, ks⟩ : St).records < 1000 := by
      unfold St.records
      rw [hw]
      simp only [List.length_take]
      omega
    have hm : ¬ (isIn l.ws[j].key (⟨C ⟨l.epoch, l.base, l.ws.take j⟩, ks⟩ : St).names = false ∧ 4 ≤ distinct (⟨C ⟨l.epoch, l.base, l.ws.take j⟩, ks⟩ : St).names) := by
      rintro ⟨g1, g2⟩
      have := distinct_mono (A := l.ws[j].key :: (⟨C ⟨l.epoch, l.base, l.ws.take j⟩, ks⟩ : St).names) (B := N) (fun k hk => by
        rcases List.mem_cons.1 hk with e | hk
        · subst e; exact hlN _ hmem
        · exact hn j k hk)
      simp only [distinct, g1, Bool.false_eq_true, if_false] at this
      omega
    have ha := accept_waits (t := ⟨C ⟨l.epoch, l.base, l.ws.take j⟩, ks⟩) hi (hC _) (hsd _ hmem) hb (hwin _ hmem) hlast (fun z hz => (hwin z (List.mem_of_mem_take hz)).1) hm hrec
    simp only at ha
    rw [hd, List.map_cons, List.cons_append]
    simp only [acceptAll]
    rw [ha]
    simp only [if_true]
    rw [hset, ← ht]
    exact fill C hi hC hset hw hN hn hlN hb hup hwin hsd htot R m (j + 1) (by omega)

def pairsOf (s : St) : List (Int × Int) := s.lanes.map fun l => (l.epoch, l.base)

theorem acceptAll_own {s : St} (h : s.tidy) : acceptAll (bare (pairsOf s) s.keys) s.recs = some s := by
  obtain ⟨ls, ks⟩ := s
  have h4 := h.fine.four
  match ls, h4 with
  | [l0, l1, l2, l3], _ =>
    have htot := h.fine.total
    simp only [St.records, waits] at htot
    have hN := h.many
    have hmem : ∀ l ∈ [l0, l1, l2, l3], ∀ y ∈ l.ws, y.key ∈ (⟨[l0, l1, l2, l3], ks⟩ : St).names := fun l hl y hy => by
      unfold St.names
      exact List.mem_append_right _ (List.mem_flatMap.2 ⟨l, hl, List.mem_map_of_mem hy⟩)
    have hsub : ∀ ls' : List Ln, (∀ l' ∈ ls', ∃ l ∈ [l0, l1, l2, l3], ∀ y ∈ l'.ws, y ∈ l.ws) → ∀ k, k ∈ (⟨ls', ks⟩ : St).names → k ∈ (⟨[l0, l1, l2, l3], ks⟩ : St).names := fun ls' hs k hk => by
      unfold St.names at hk
      rcases List.mem_append.1 hk with hk | hk
      · unfold St.names
        exact List.mem_append_left _ hk
      · obtain ⟨l', hl', hk⟩ := List.mem_flatMap.1 hk
        obtain ⟨y, hy, rfl⟩ := List.mem_map.1 hk
        obtain ⟨l, hl, hs⟩ := hs l' hl'
        exact hmem l hl y (hs y hy)
    have hf : ∀ l ∈ [l0, l1, l2, l3], 0 ≤ l.base := fun l hl => (h.fine.lane l hl).2.2.1
    have hg : ∀ l ∈ [l0, l1, l2, l3], (l.ws.Pairwise fun a b => a.num < b.num) ∧ ∀ y ∈ l.ws, l.base < y.num ∧ y.num < l.base + 4 := fun l hl => h.good.wait l hl
    have hd : ∀ l ∈ [l0, l1, l2, l3], ∀ y ∈ l.ws, y.sound := fun l hl => h.sound.wt l hl
    have hnil : ∀ l : Ln, (⟨l.epoch, l.base, []⟩ : Ln) = ⟨l.epoch, l.base, l.ws.take 0⟩ := fun l => by simp
    have hrec : (⟨[l0, l1, l2, l3], ks⟩ : St).recs = l0.ws.map (recOf 0 l0.epoch) ++ (l1.ws.map (recOf 1 l1.epoch) ++ (l2.ws.map (recOf 2 l2.epoch) ++ (l3.ws.map (recOf 3 l3.epoch) ++ []))) := rfl
    have hbare : bare (pairsOf ⟨[l0, l1, l2, l3], ks⟩) ks = ⟨[⟨l0.epoch, l0.base, l0.ws.take 0⟩, ⟨l1.epoch, l1.base, []⟩, ⟨l2.epoch, l2.base, []⟩, ⟨l3.epoch, l3.base, []⟩], ks⟩ := by simp [bare, pairsOf]
    rw [hbare, hrec]
    have f0 := fill (ks := ks) (i := 0) (fun l => [l, ⟨l1.epoch, l1.base, []⟩, ⟨l2.epoch, l2.base, []⟩, ⟨l3.epoch, l3.base, []⟩]) (by omega) (fun l => rfl) (fun l l' => rfl) (w0 := 0) (fun l => by simp [waits]) hN (l := l0)
      (fun j => hsub _ (fun l' hl' => by
        simp only [List.mem_cons, List.not_mem_nil, or_false] at hl'
        rcases hl' with rfl | rfl | rfl | rfl
        · exact ⟨l0, by simp, fun y hy => List.mem_of_mem_take hy⟩
        · exact ⟨l0, by simp, fun y hy => by simp at hy⟩
        · exact ⟨l0, by simp, fun y hy => by simp at hy⟩
        · exact ⟨l0, by simp, fun y hy => by simp at hy⟩)) (hmem l0 (by simp)) (hf l0 (by simp)) (hg l0 (by simp)).1 (hg l0 (by simp)).2 (hd l0 (by simp)) (by omega)
    refine (f0 _ l0.ws.length 0 (by omega)).trans ?_
    simp only [hnil l1]
    have f1 := fill (ks := ks) (i := 1) (fun l => [l0, l, ⟨l2.epoch, l2.base, []⟩, ⟨l3.epoch, l3.base, []⟩]) (by omega) (fun l => rfl) (fun l l' => rfl) (w0 := l0.ws.length) (fun l => by simp [waits]) hN (l := l1)
      (fun j => hsub _ (fun l' hl' => by
        simp only [List.mem_cons, List.not_mem_nil, or_false] at hl'
        rcases hl' with rfl | rfl | rfl | rfl
        · exact ⟨l', by simp, fun y hy => hy⟩
        · exact ⟨l1, by simp, fun y hy => List.mem_of_mem_take hy⟩
        · exact ⟨l1, by simp, fun y hy => by simp at hy⟩
        · exact ⟨l1, by simp, fun y hy => by simp at hy⟩)) (hmem l1 (by simp)) (hf l1 (by simp)) (hg l1 (by simp)).1 (hg l1 (by simp)).2 (hd l1 (by simp)) (by omega)
    refine (f1 _ l1.ws.length 0 (by omega)).trans ?_
    simp only [hnil l2]
    have f2 := fill (ks := ks) (i := 2) (fun l => [l0, l1, l, ⟨l3.epoch, l3.base, []⟩]) (by omega) (fun l => rfl) (fun l l' => rfl) (w0 := l0.ws.length + l1.ws.length) (fun l => by simp [waits]; omega) hN (l := l2)
      (fun j => hsub _ (fun l' hl' => by
        simp only [List.mem_cons, List.not_mem_nil, or_false] at hl'
        rcases hl' with rfl | rfl | rfl | rfl
        · exact ⟨l', by simp, fun y hy => hy⟩
        · exact ⟨l', by simp, fun y hy => hy⟩
        · exact ⟨l2, by simp, fun y hy => List.mem_of_mem_take hy⟩
        · exact ⟨l2, by simp, fun y hy => by simp at hy⟩)) (hmem l2 (by simp)) (hf l2 (by simp)) (hg l2 (by simp)).1 (hg l2 (by simp)).2 (hd l2 (by simp)) (by omega)
    refine (f2 _ l2.ws.length 0 (by omega)).trans ?_
    simp only [hnil l3]
    have f3 := fill (ks := ks) (i := 3) (fun l => [l0, l1, l2, l]) (by omega) (fun l => rfl) (fun l l' => rfl) (w0 := l0.ws.length + l1.ws.length + l2.ws.length) (fun l => by simp [waits]; omega) hN (l := l3)
      (fun j => hsub _ (fun l' hl' => by
        simp only [List.mem_cons, List.not_mem_nil, or_false] at hl'
        rcases hl' with rfl | rfl | rfl | rfl
        · exact ⟨l', by simp, fun y hy => hy⟩
        · exact ⟨l', by simp, fun y hy => hy⟩
        · exact ⟨l', by simp, fun y hy => hy⟩
        · exact ⟨l3, by simp, fun y hy => List.mem_of_mem_take hy⟩)) (hmem l3 (by simp)) (hf l3 (by simp)) (hg l3 (by simp)).1 (hg l3 (by simp)).2 (hd l3 (by simp)) (by omega)
    refine (f3 _ l3.ws.length 0 (by omega)).trans ?_
    rfl

theorem less_empty {k : ByteArray} (h : okKey k = true) : less ⟨#[]⟩ k = true := by
  unfold okKey at h
  unfold less
  split at h
  · cases h
  · rename_i c r e
    rw [e]; rfl

theorem keysCan_own : ∀ {last : ByteArray} {ks : List Ky}, (∀ k ∈ ks, keyCan k = true ∧ less last k.name = true) → (ks.Pairwise fun a b => less a.name b.name = true) → keysCan last ks = true
  | last, [], _, _ => rfl
  | last, k :: r, h, hp => by
    rw [List.pairwise_cons] at hp
    have h1 := h k (by simp)
    simp only [keysCan, h1.1, h1.2, Bool.true_and]
    exact keysCan_own (fun k' hk' => ⟨(h k' (by simp [hk'])).1, hp.1 k' hk'⟩) hp.2

theorem basesOf_own : ∀ ls : List Ln, basesOf (ls.map fun l => (l.epoch, l.base)) = baseSum ls
  | [] => rfl
  | l :: r => by simp [basesOf, baseSum, basesOf_own r]

theorem count_le_sum : ∀ {ks : List Ky}, (∀ k ∈ ks, 1 ≤ k.count) → (∀ k ∈ ks, k.count ≤ counts ks) ∧ 0 ≤ counts ks
  | [], _ => by simp [counts]
  | y :: r, h => by
    obtain ⟨h1, h2⟩ := count_le_sum (ks := r) (fun k hk => h k (by simp [hk]))
    have h3 := h y (by simp)
    refine ⟨fun k hk => ?_, by simp only [counts]; omega⟩
    simp only [counts]
    rcases List.mem_cons.1 hk with e | hk
    · subst e; omega
    · have := h1 k hk; omega

theorem waits_nonneg : ∀ ls : List Ln, 0 ≤ waits ls
  | [] => by simp [waits]
  | l :: r => by have := waits_nonneg r; simp only [waits]; omega

theorem St.tidy.counts_le {s : St} (h : s.tidy) : counts s.keys ≤ 1000 := by
  have := h.fine.total
  have := waits_nonneg s.lanes
  unfold St.records at *
  omega

theorem canBe_own {s : St} (h : s.tidy) : canBe (pairsOf s) s.keys = true := by
  have hc := h.counts_le
  obtain ⟨h1, h2⟩ := count_le_sum (fun k hk => (h.fine.key k hk).1)
  have hk : ∀ k ∈ s.keys, keyCan k = true := fun k hk => by
    have a1 := h.sound.kname k hk
    have a2 := h.fold k hk
    have a3 := h.fine.key k hk
    have a4 := h1 k hk
    simp [keyCan, a1]
    omega
  unfold canBe
  rw [keysCan_own (fun k hk' => ⟨hk k hk', less_empty (h.sound.kname k hk')⟩) h.good.sorted]
  have hs : (pairsOf s).all sessCan = true := by
    rw [List.all_eq_true]
    intro p hp
    obtain ⟨l, hl, rfl⟩ := List.mem_map.1 hp
    have := h.fine.lane l hl
    simp [sessCan]
    omega
  have hb := h.sound.based
  have hb2 : basesOf (pairsOf s) = baseSum s.lanes := basesOf_own _
  have h4 : (pairsOf s).length = 4 := by simp [pairsOf, h.fine.four]
  have hf := h.good.few
  rw [hs, hb2]
  simp [h4, hf, hc, hb]

theorem restore_own {s : St} (h : s.tidy) : restore (pairsOf s) s.keys s.recs = some s := by
  unfold restore
  rw [canBe_own h, if_pos rfl, acceptAll_own h]

theorem ky_tidy {s : St} (h : s.tidy) : ∀ k ∈ s.keys, k.tidy := fun k hk => by
  obtain ⟨h1, h2⟩ := count_le_sum (fun k hk => (h.fine.key k hk).1)
  have a1 := okKey_size (h.sound.kname k hk)
  have a2 := h.fold k hk
  have a3 := h.fine.key k hk
  have a4 := h1 k hk
  have := h.counts_le
  exact ⟨by omega, by omega, by omega, a1.2⟩

theorem rec_tidy {s : St} (h : s.tidy) : ∀ x ∈ s.recs, x.tidy := fun x hx => by
  obtain ⟨j, l, y, h1, h2, rfl⟩ := mem_recsFrom hx
  have hl := List.mem_of_getElem? h1
  have hj : j < 4 := by rw [← h.fine.four]; exact (List.getElem?_eq_some_iff.1 h1).1
  have a1 := h.fine.lane l hl
  have a2 := (h.good.wait l hl).2 y h2
  obtain ⟨b1, b2, b3⟩ := h.sound.wt l hl y h2
  have := okKey_size b1
  exact ⟨by simp only; omega, by simp only; omega, by simp only; omega, by simp only; omega, by simp only; omega⟩

theorem recs_len {s : St} (h : s.tidy) : s.recs.length ≤ 12 := by
  have h1 : ∀ l ∈ s.lanes, l.ws.length ≤ 3 := fun l hl => by
    obtain ⟨g1, g2⟩ := h.good.wait l hl
    by_cases hc : l.ws.length ≤ 3
    · exact hc
    · exfalso
      have p := List.pairwise_iff_getElem.1 g1
      have q0 := p 0 1 (by omega) (by omega) (by omega)
      have q1 := p 1 2 (by omega) (by omega) (by omega)
      have q2 := p 2 3 (by omega) (by omega) (by omega)
      have a := g2 l.ws[0] (List.getElem_mem _)
      have b := g2 l.ws[3] (List.getElem_mem _)
      omega
  have h2 := recsFrom_len 0 s.lanes
  have h4 := h.fine.four
  obtain ⟨ls, ks⟩ := s
  match ls, h4 with
  | [l0, l1, l2, l3], _ =>
    have b0 := h1 l0 (by simp)
    have b1 := h1 l1 (by simp)
    have b2 := h1 l2 (by simp)
    have b3 := h1 l3 (by simp)
    simp only [waits] at h2
    unfold St.recs
    simp only
    omega

theorem parts_full {row : ByteArray} {a : Nat} {s : St} (h : s.tidy) (hs : Stands row a (encHead s)) : rParts row ⟨a, none⟩ = (pairsOf s, s.keys, s.recs, ⟨a + (encHead s).length, none⟩) := by
  have e : encHead s = markB ++ (s.lanes.flatMap encSess ++ (encInt s.keys.length ++ (s.keys.flatMap encKy ++ (encInt s.recs.length ++ s.recs.flatMap encRec)))) := by simp [encHead]
  rw [e] at hs ⊢
  obtain ⟨g0, hs⟩ := hs.split
  obtain ⟨g1, hs⟩ := hs.split
  obtain ⟨g2, hs⟩ := hs.split
  obtain ⟨g3, hs⟩ := hs.split
  obtain ⟨g4, g5⟩ := hs.split
  have hm : rMark row ⟨a, none⟩ = ⟨a + markB.length, none⟩ := by
    have := text_full g0 (g0.inside (by simp [markB]))
    unfold rMark
    rw [show (8 : Nat) = markB.length from rfl, this, if_pos (show (⟨markB.toArray⟩ : ByteArray) = markA from rfl)]
  have h1 := many_full (enc := encSess) (f := rPair row) (g := fun l => (l.epoch, l.base)) s.lanes _ (fun l hl a hs => pair_full ⟨(h.fine.lane l hl).1, (h.fine.lane l hl).2.1⟩ ⟨(h.fine.lane l hl).2.2.1, by have := (h.fine.lane l hl).2.2.2; omega⟩ hs) g1 s.lanes.length (Nat.le_refl _)
  have h3 := many_full (enc := encKy) (f := rKy row) (g := id) s.keys _ (fun k hk a hs => ky_full (ky_tidy h k hk) hs) g3 s.keys.length (Nat.le_refl _)
  have h5 := many_full (enc := encRec) (f := rRec row) (g := id) s.recs _ (fun x hx a hs => rec_full (rec_tidy h x hx) hs) g5 s.recs.length (Nat.le_refl _)
  rw [List.take_length] at h1 h3 h5
  rw [List.map_id] at h3 h5
  rw [h.fine.four] at h1
  have h2 := upTo_full (n := 4) (by omega) (by have := h.good.few; omega) (by omega) g2
  have h4 := upTo_full (n := 12) (by omega) (by have := recs_len h; omega) (by omega) g4
  simp only [rParts, hm, h1, h2, Int.toNat_natCast, h3, h4, h5, List.length_append]
  refine Prod.ext rfl (Prod.ext rfl (Prod.ext rfl ?_))
  simp only [Rs.mk.injEq, and_true]
  omega

theorem head_full {row : ByteArray} {a : Nat} {s : St} (h : s.tidy) (hs : Stands row a (encHead s)) : rHead row ⟨a, none⟩ = (some s, ⟨a + (encHead s).length, none⟩) := by
  unfold rHead
  rw [parts_full h hs]
  simp only [restore_own h]

theorem acc_full {row : ByteArray} {a : Nat} {s : St} {x : Rec} (hx : x.tidy) (h0 : (accept s x).1.2 = 0) (hs : Stands row a (encAcc x)) : rEntry row s ⟨a, none⟩ = ((accept s x).2, ⟨a + (encAcc x).length, none⟩) := by
  have hs' : Stands row a ([114] ++ encRec x) := hs
  obtain ⟨g1, g2⟩ := hs'.split
  have h1 := text_full g1 (g1.inside (by simp))
  simp only [List.length_cons, List.length_nil, Nat.zero_add] at h1 g2
  have h2 := rec_full hx g2
  simp only [rEntry, h1]
  rw [if_pos (show (⟨#[114]⟩ : ByteArray) = accR from rfl), h2]
  simp only [h0, if_true, encAcc, List.length_cons]
  refine Prod.ext rfl ?_
  simp only [Rs.mk.injEq, and_true]
  omega

theorem acc_cut {row : ByteArray} {a : Nat} {s : St} {x : Rec} (hx : x.tidy) (hs : Ends row a (encAcc x)) : (rEntry row s ⟨a, none⟩).1 = s ∧ cutErr (rEntry row s ⟨a, none⟩).2 := by
  have hs' : Ends row a ([114] ++ encRec x) := hs
  rcases hs'.split with g | ⟨g1, g2⟩
  · have h1 := text_cut g rfl
    simp only [List.length_cons, List.length_nil, Nat.zero_add] at h1
    simp only [rEntry, h1]
    rw [if_neg (by simp [accR]), if_neg (by simp [ansR])]
    exact ⟨rfl, a, rfl⟩
  · have h1 := text_full g1 hs.1
    simp only [List.length_cons, List.length_nil, Nat.zero_add] at h1 g2
    obtain ⟨p, hc⟩ := rec_cut hx g2
    simp only [rEntry, h1]
    rw [if_pos (show (⟨#[114]⟩ : ByteArray) = accR from rfl), hc]
    exact ⟨rfl, p, hc⟩

theorem ans_full {row : ByteArray} {a : Nat} {s : St} {k : ByteArray} {n : Int} (hk : k.size ≤ 6) (hn : 0 ≤ n ∧ n ≤ 9223372036854775807) (h0 : (answer s k n).1 = 0) (hs : Stands row a (encAns k n)) : rEntry row s ⟨a, none⟩ = ((answer s k n).2, ⟨a + (encAns k n).length, none⟩) := by
  have hs' : Stands row a ([97] ++ (encKey k ++ encInt n)) := hs
  obtain ⟨g1, hs'⟩ := hs'.split
  obtain ⟨g2, g3⟩ := hs'.split
  have h1 := text_full g1 (g1.inside (by simp))
  simp only [List.length_cons, List.length_nil, Nat.zero_add] at h1 g2 g3
  have h2 := key_full hk g2
  have h3 := num_full hn.1 hn.2 g3
  have hnn : ((n.toNat : Nat) : Int) = n := by omega
  simp only [rEntry, h1]
  rw [if_neg (by simp [accR]), if_pos (show (⟨#[97]⟩ : ByteArray) = ansR from rfl), h2]
  simp only
  rw [h3]
  simp only [hnn, h0, if_true, encAns, List.length_cons, List.length_append]
  refine Prod.ext rfl ?_
  simp only [Rs.mk.injEq, and_true]
  omega

theorem ans_cut {row : ByteArray} {a : Nat} {s : St} {k : ByteArray} {n : Int} (hk : k.size ≤ 6) (hn : n ≤ 9223372036854775807) (hs : Ends row a (encAns k n)) : (rEntry row s ⟨a, none⟩).1 = s ∧ cutErr (rEntry row s ⟨a, none⟩).2 := by
  have hs' : Ends row a ([97] ++ (encKey k ++ encInt n)) := hs
  rcases hs'.split with g | ⟨g1, g2⟩
  · have h1 := text_cut g rfl
    simp only [List.length_cons, List.length_nil, Nat.zero_add] at h1
    simp only [rEntry, h1]
    rw [if_neg (by simp [accR]), if_neg (by simp [ansR])]
    exact ⟨rfl, a, rfl⟩
  · have h1 := text_full g1 hs.1
    simp only [List.length_cons, List.length_nil, Nat.zero_add] at h1 g2
    have hc : cutErr (rNum row (rKey row ⟨a + 1, none⟩).2).2 := by
      rcases g2.split with g | ⟨g3, g4⟩
      · exact (Rs.on.num row _).cut (key_cut hk g)
      · rw [key_full hk g3]
        exact num_cut hn g4
    obtain ⟨p, hc⟩ := hc
    simp only [rEntry, h1]
    rw [if_neg (by simp [accR]), if_pos (show (⟨#[97]⟩ : ByteArray) = ansR from rfl), hc]
    exact ⟨rfl, p, hc⟩

end Go.Proofs.YthedkdbgfdjlkaaGreatDoor

/- What canBe asks of bytes gives a flow that fits. Pure. -/
namespace Go.Proofs.YthedkdbgfdjlkaaGreatDoor
set_option linter.unusedVariables false
set_option linter.unusedSimpArgs false

theorem distinct_le_length : ∀ l : List ByteArray, distinct l ≤ l.length
  | [] => by simp [distinct]
  | k :: r => by
    have := distinct_le_length r
    simp only [distinct, List.length_cons]
    split <;> omega

theorem keysCan_all : ∀ {last : ByteArray} {ks : List Ky}, keysCan last ks = true → (∀ k ∈ ks, keyCan k = true ∧ less last k.name = true) ∧ (ks.Pairwise fun a b => less a.name b.name = true)
  | last, [], _ => ⟨by simp, .nil⟩
  | last, k :: r, h => by
    simp only [keysCan, Bool.and_eq_true] at h
    obtain ⟨h1, h2⟩ := keysCan_all h.2
    refine ⟨fun x hx => ?_, List.pairwise_cons.2 ⟨fun x hx => (h1 x hx).2, h2⟩⟩
    rcases List.mem_cons.1 hx with rfl | hx
    · exact ⟨h.1.1, h.1.2⟩
    · exact ⟨(h1 x hx).1, less_trans h.1.2 (h1 x hx).2⟩

structure KeyCan (k : Ky) : Prop where
  name : okKey k.name = true
  fold : 0 ≤ k.fold ∧ k.fold ≤ 4294967295
  count : 1 ≤ k.count ∧ k.count ≤ 1000
  held : 0 ≤ k.held ∧ k.held ≤ k.count

theorem keyCan_out {k : Ky} (h : keyCan k = true) : KeyCan k := by
  simp only [keyCan, Bool.and_eq_true, decide_eq_true_eq] at h
  obtain ⟨⟨⟨⟨⟨⟨h1, h2⟩, h3⟩, h4⟩, h5⟩, h6⟩, h7⟩ := h
  exact ⟨h1, ⟨h2, h3⟩, ⟨h4, h5⟩, h6, h7⟩

structure CanBe (ss : List (Int × Int)) (ks : List Ky) : Prop where
  four : ss.length = 4
  few : ks.length ≤ 4
  key : ∀ k ∈ ks, KeyCan k
  sorted : ks.Pairwise fun a b => less a.name b.name = true
  sess : ∀ s ∈ ss, 0 ≤ s.1 ∧ 0 ≤ s.2 ∧ s.2 ≤ 1000
  total : counts ks ≤ 1000
  based : basesOf ss ≤ counts ks

theorem canBe_out {ss : List (Int × Int)} {ks : List Ky} (h : canBe ss ks = true) : CanBe ss ks := by
  simp only [canBe, Bool.and_eq_true, decide_eq_true_eq, List.all_eq_true] at h
  obtain ⟨⟨⟨⟨⟨h1, h2⟩, h3⟩, h4⟩, h5⟩, h6⟩ := h
  obtain ⟨k1, k2⟩ := keysCan_all h3
  refine ⟨h1, h2, fun k hk => keyCan_out (k1 k hk).1, k2, fun s hs => ?_, h5, h6⟩
  have := h4 s hs
  simp only [sessCan, Bool.and_eq_true, decide_eq_true_eq] at this
  exact ⟨this.1.1, this.1.2, this.2⟩

def epOf (ss : List (Int × Int)) (i : Nat) : Int := match ss[i]? with
  | some s => s.1
  | none => 0
def baOf (ss : List (Int × Int)) (i : Nat) : Int := match ss[i]? with
  | some s => s.2
  | none => 0

theorem epOf_at {ss : List (Int × Int)} {i : Nat} {s : Int × Int} (h : ss[i]? = some s) : epOf ss i = s.1 ∧ baOf ss i = s.2 := by
  simp [epOf, baOf, h]

theorem base_le_sum : ∀ {ss : List (Int × Int)}, (∀ s ∈ ss, 0 ≤ s.2) → 0 ≤ basesOf ss ∧ ∀ s ∈ ss, s.2 ≤ basesOf ss
  | [], _ => by simp [basesOf]
  | y :: r, h => by
    obtain ⟨h1, h2⟩ := base_le_sum (ss := r) (fun s hs => h s (by simp [hs]))
    have h3 := h y (by simp)
    refine ⟨by simp only [basesOf]; omega, fun s hs => ?_⟩
    simp only [basesOf]
    rcases List.mem_cons.1 hs with e | hs
    · subst e; omega
    · have := h2 s hs; omega

theorem bare_base : ∀ ss : List (Int × Int), baseSum (ss.map fun s => (⟨s.1, s.2, []⟩ : Ln)) = basesOf ss
  | [] => rfl
  | s :: r => by simp [basesOf, baseSum, bare_base r]

theorem okKey_first {k : ByteArray} (h : okKey k = true) : ∃ c r, k.data.toList = c :: r ∧ okFirst c = true := by
  unfold okKey at h
  split at h
  · cases h
  · rename_i c r e
    simp only [Bool.and_eq_true] at h
    exact ⟨c, r, e, h.1⟩

theorem bare_fit {ss : List (Int × Int)} {ks : List Ky} (h : CanBe ss ks) (he : ∀ s ∈ ss, s.1 ≤ 9223372036854775807) :
    FlowFit (epOf ss) (baOf ss) (fun _ => []) ks ∧ Ties (epOf ss) (baOf ss) (fun _ => []) ks (bare ss ks) ∧ (bare ss ks).sound := by
  obtain ⟨b1, b2⟩ := base_le_sum (fun s hs => (h.sess s hs).2.1)
  have hat : ∀ i, i < 4 → ∃ s, ss[i]? = some s := fun i hi => ⟨_, List.getElem?_eq_getElem (by rw [h.four]; exact hi)⟩
  have hb := h.based
  refine ⟨⟨fun i _ => by simp, h.few, ⟨h.sorted, fun k hk => okKey_first (h.key k hk).name, fun k hk => (h.key k hk).fold, fun k hk => by have := (h.key k hk).count; omega, by simp [qLens]; exact h.total⟩, fun i hi => ?_, fun i _ x hx => by simp at hx⟩, ⟨rfl, by simp [bare, h.four], fun i hi => ?_, fun i hi => ?_, ?_, fun k hk => ⟨(h.key k hk).count.1, (h.key k hk).held⟩⟩, ⟨fun k hk => (h.key k hk).name, fun l hl y hy => ?_, ?_⟩⟩
  · obtain ⟨s, hs⟩ := hat i hi
    rw [(epOf_at hs).2]
    have := b2 s (List.mem_of_getElem? hs)
    have := h.sess s (List.mem_of_getElem? hs)
    omega
  · obtain ⟨s, hs⟩ := hat i hi
    refine ⟨⟨s.1, s.2, []⟩, by simp [bare, hs], ?_⟩
    rw [(epOf_at hs).1, (epOf_at hs).2]
    exact ⟨rfl, rfl, List.Pairwise.nil, .refl _, trivial, by simp⟩
  · obtain ⟨s, hs⟩ := hat i hi
    rw [(epOf_at hs).1]
    exact ⟨(h.sess s (List.mem_of_getElem? hs)).1, he s (List.mem_of_getElem? hs)⟩
  · have hn : (bare ss ks).names = ks.map (·.name) := by
      unfold St.names bare
      simp only
      have : (ss.map fun s => (⟨s.1, s.2, []⟩ : Ln)).flatMap (fun l => l.ws.map (·.key)) = [] := by
        rw [List.flatMap_eq_nil_iff]
        intro l hl
        obtain ⟨s, _, rfl⟩ := List.mem_map.1 hl
        rfl
      rw [this, List.append_nil]
    rw [hn]
    have := distinct_le_length (ks.map (·.name))
    rw [List.length_map] at this
    have := h.few
    omega
  · obtain ⟨s, _, rfl⟩ := List.mem_map.1 hl
    simp at hy
  · show baseSum (ss.map fun s => (⟨s.1, s.2, []⟩ : Ln)) ≤ counts ks
    rw [bare_base]
    exact hb

/-- What is read ahead of the flow: as many as there must be, none too great. -/
theorem rMany_length {α : Type} (f : Rs → α × Rs) (r : Rs) : ∀ k, (rMany f k r).1.length = k
  | 0 => rfl
  | k + 1 => by simp [rMany, rMany_length f r k]
theorem rMany_mem {α : Type} (f : Rs → α × Rs) (P : α → Prop) (hP : ∀ r, P (f r).1) (r : Rs) : ∀ k, ∀ x ∈ (rMany f k r).1, P x
  | 0, x, hx => by simp [rMany] at hx
  | k + 1, x, hx => by
    simp only [rMany, List.mem_append, List.mem_singleton] at hx
    rcases hx with hx | rfl
    · exact rMany_mem f P hP r k x hx
    · exact hP _

/-- A head that was read took some. -/
theorem rText_pos {row : ByteArray} {n : Nat} {r : Rs} (h : (rText row n r).2.err = none) : (rText row n r).2.at_ = r.at_ + n := by
  cases e : r.err with
  | some x => rw [rText_some row n r e] at h; rw [e] at h; cases h
  | none =>
    by_cases hs : row.size < r.at_ + n
    · rw [rText_cut row n r e hs] at h; cases h
    · rw [rText_ok row n r e hs]

theorem on_none {row : ByteArray} {r r' : Rs} (h : Rs.on row r r') (he : r'.err = none) : r.err = none := by
  cases e : r.err with
  | none => rfl
  | some x => rw [h.stuck x e, e] at he; cases he

theorem rMark_pos {row : ByteArray} {r : Rs} (h : (rMark row r).err = none) : (rMark row r).at_ = r.at_ + 8 := by
  unfold rMark at h ⊢
  split at h
  · rename_i e
    rw [if_pos e]
    exact rText_pos h
  · have := on_none (Rs.on.fail row (rText row 8 r).2 2) h
    rw [Rs.fail_none _ _ this] at h
    cases h

theorem rParts_on (row : ByteArray) (r : Rs) : Rs.on row (rMark row r) (rParts row r).2.2.2 :=
  ((((Rs.on.many (Rs.on.pair row) _ 4).trans (Rs.on.upTo row 4 _)).trans (Rs.on.many (Rs.on.ky row) _ _)).trans (Rs.on.upTo row 12 _)).trans (Rs.on.many (Rs.on.rec_ row) _ _)

theorem rParts_pos {row : ByteArray} {r : Rs} (h : (rParts row r).2.2.2.err = none) : 0 < (rParts row r).2.2.2.at_ := by
  have h1 := rParts_on row r
  have h2 := rMark_pos (on_none h1 h)
  have := h1.le
  omega

end Go.Proofs.YthedkdbgfdjlkaaGreatDoor

/- A flow in memory, by its state: Accept and Answer. -/
namespace Go.Proofs.YthedkdbgfdjlkaaGreatDoor
set_option linter.unusedVariables false
set_option linter.unusedSimpArgs false
open Go.RowKit Go.Lib

/-- The flow at b, o is in the state s; its blocks are in F. -/
def FlowIs (w : World) (b o : Nat) (s : St) (F : Nat → Prop) : Prop :=
  F b ∧ (∀ k, F k → k < w.heap.size) ∧ ∃ E B V vk Q ks, FlowAt w 0 b o E B V vk Q ks ∧ FlowFit E B Q ks ∧ Ties E B Q ks s ∧ s.sound ∧ ∀ k, Rows V vk k → F k

theorem FlowIs.fine {w : World} {b o : Nat} {s : St} {F : Nat → Prop} (h : FlowIs w b o s F) : s.fine := by
  obtain ⟨_, _, E, B, V, vk, Q, ks, _, h5, h6, _⟩ := h
  exact h6.fine h5

theorem FlowIs.same {w w' : World} {b o : Nat} {s : St} {F G : Nat → Prop} (h : FlowIs w b o s F) (c : Chg G w w') (hF : ∀ k, F k → ¬ G k) : FlowIs w' b o s F := by
  obtain ⟨hb, hl, E, B, V, vk, Q, ks, h4, h5, h6, h7, h8⟩ := h
  refine ⟨hb, fun k hk => Nat.lt_of_lt_of_le (hl k hk) c.size, E, B, V, vk, Q, ks, ?_, h5, h6, h7, h8⟩
  exact h4.same (c.block b (hl b hb) (hF b hb)) (fun k hk => c.block k (hl k (h8 k hk)) (hF k (h8 k hk)))

theorem flowIs_accept {w : World} {b o : Nat} {s : St} {F : Nat → Prop} (x : Rec) (h : FlowIs w b o s F) (hx : x.fits) : Calls Tryz.prog 40 #[.pointer (some ⟨b, o, none⟩), x.value'] w fun e w' =>
    ∃ ch F', e = .returned (.tuple #[.int .i64 (accept s x).1.1, .bool ch, .int .i64 (accept s x).1.2]) ∧ FlowIs w' b o (accept s x).2 F' ∧ (∀ k, F' k → F k ∨ w.heap.size ≤ k) ∧ Chg F w w' := by
  obtain ⟨hb, hl, E, B, V, vk, Q, ks, h4, h5, h6, h7, h8⟩ := h
  obtain ⟨t1, t2, t3, t4, t5⟩ := accept_tie h6 h5 x hx
  have hsnd := sound_accept h7 (h6.fine h5) x
  refine (flowAccept_any h4 h5 x hx).mono ?_
  rintro e w' ⟨rfl, hp⟩
  refine ⟨_, fun k => F k ∨ (w.heap.size ≤ k ∧ k < w'.heap.size), by rw [t1], ?_, fun k hk => hk.imp id (fun h => h.1), ?_⟩
  · cases hc : (accF E B Q ks x).2 with
    | none =>
      rw [hc] at hp t2 t3
      have c : Chg (fun _ => False) w w' := hp
      refine ⟨.inl hb, fun k hk => ?_, E, B, V, vk, Q, ks, ?_, t3, t2, hsnd, fun k hk => .inl (h8 k hk)⟩
      · rcases hk with hk | hk
        · exact Nat.lt_of_lt_of_le (hl k hk) c.size
        · exact hk.2
      · exact h4.same (c.block b (hl b hb) id) (fun k hk => c.block k (hl k (h8 k hk)) id)
    | some y =>
      obtain ⟨e', b', q', ks'⟩ := y
      rw [hc] at hp t2 t3
      obtain ⟨v', vk', g1, g2, g3, _, g5⟩ := hp
      refine ⟨.inl hb, fun k hk => ?_, _, _, _, vk', _, ks', g1, t3, t2, hsnd, fun k hk => ?_⟩
      · rcases hk with hk | hk
        · exact Nat.lt_of_lt_of_le (hl k hk) g5.size
        · exact hk.2
      · have hlt : k < w'.heap.size := by
          rcases hk with ⟨i, hi, hk⟩ | hk
          · exact ((g1.rows i hi).lt k hk).2
          · exact (g1.keys.lt k hk).2
        rcases hk with ⟨i, hi, hk⟩ | hk
        · unfold upd at hk
          split at hk
          · rename_i ei
            rcases g2 k hk with h | h
            · exact .inl (h8 k (.inl ⟨x.session.toNat, by omega, h⟩))
            · exact .inr ⟨h, hlt⟩
          · exact .inl (h8 k (.inl ⟨i, hi, hk⟩))
        · rcases g3 k hk with h | h
          · exact .inl (h8 k (.inr h))
          · exact .inr ⟨h, hlt⟩
  · cases hc : (accF E B Q ks x).2 with
    | none =>
      rw [hc] at hp
      exact Chg.mono hp (fun k hk => hk.elim)
    | some y =>
      obtain ⟨e', b', q', ks'⟩ := y
      rw [hc] at hp
      obtain ⟨v', vk', g1, g2, g3, _, g5⟩ := hp
      refine g5.mono (fun k hk => ?_)
      rcases hk with rfl | hk | hk
      · exact hb
      · have hs : x.session.toNat < 4 := by
          have : recErr x = 0 := by
            unfold accF at hc
            by_cases hbad : recErr x ≠ 0
            · rw [if_pos hbad] at hc; cases hc
            · simpa using hbad
          unfold recErr at this
          split at this
          · cases this
          · omega
        exact h8 k (.inl ⟨_, hs, hk⟩)
      · exact h8 k (.inr hk)

theorem flowIs_answer {w : World} {b o : Nat} {s : St} {F : Nat → Prop} (key : ByteArray) (n : Int) (h : FlowIs w b o s F) (hkey : key.size ≤ maxLen) (hn : inInt n) : Calls Tryz.prog 42 #[.pointer (some ⟨b, o, none⟩), .string key, .int .i64 n] w fun e w' =>
    ∃ ch, e = .returned (.tuple #[.bool ch, .int .i64 (answer s key n).1]) ∧ FlowIs w' b o (answer s key n).2 F ∧ Chg F w w' := by
  obtain ⟨hb, hl, E, B, V, vk, Q, ks, h4, h5, h6, h7, h8⟩ := h
  obtain ⟨t1, t2, t3⟩ := ansF_fit h6 h5 key n
  have hsnd := sound_answer h7 key n
  have hq0 := qLens_nonneg Q 4
  have htot := h5.led.total
  refine (flowAnswer_any h4 h5.led.sorted h5.kl (fun k hk => ?_) key n hkey hn).mono ?_
  · have h8 := h6.held k hk
    have h9 := (count_le h5.led.count k hk).1
    omega
  · rintro e w' ⟨rfl, g1, g2⟩
    have c : Chg F w w' := g2.mono (fun k hk => h8 k (.inr hk))
    refine ⟨_, by rw [t1], ⟨hb, fun k hk => Nat.lt_of_lt_of_le (hl k hk) c.size, E, B, V, vk, Q, _, ?_, t2, t3, hsnd, h8⟩, c⟩
    have hbn : ¬ vk.ownBlock = some b := h4.ownk
    have eb := g2.block b (hl b hb) hbn
    refine ⟨⟨fun i hi => (World.cell?_of_block (w := w) eb).trans (h4.cells.ep i hi), fun i hi => (World.cell?_of_block (w := w) eb).trans (h4.cells.ba i hi), fun i hi => (World.cell?_of_block (w := w) eb).trans (h4.cells.qu i hi), (World.cell?_of_block (w := w) eb).trans h4.cells.le⟩,
      fun j => (World.frozen?_of_block (w := w) eb).trans (h4.froz j), fun i hi => row_same (h4.rows i hi) (fun k hk => g2.block k (hl k (h8 k (.inl ⟨i, hi, hk⟩))) (fun e => h4.sepk i hi k hk e)), g1, h4.own, h4.ownk, h4.sep, h4.sepk, Nat.zero_le _⟩

end Go.Proofs.YthedkdbgfdjlkaaGreatDoor
