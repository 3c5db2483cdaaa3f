import Derived.Test.YthedkdbgfdjlkaaGreatDoorPack1
import Derived.Test.YthedkdbgfdjlkaaGreatDoorPack2
import Derived.Test.YthedkdbgfdjlkaaGreatDoorPack3
import Derived.Test.YthedkdbgfdjlkaaGreatDoorPack4
import Derived.Test.YthedkdbgfdjlkaaGreatDoorPack5
import Derived.Test.YthedkdbgfdjlkaaGreatDoorPack6
import Derived.Test.YthedkdbgfdjlkaaGreatDoorPack7
import Derived.Test.YthedkdbgfdjlkaaGreatDoorPack8
import Derived.Test.YthedkdbgfdjlkaaGreatDoorPack9
import Derived.Test.YthedkdbgfdjlkaaGreatDoorPack10
namespace Go.Proofs.YthedkdbgfdjlkaaGreatDoor
set_option linter.unusedVariables false
set_option linter.unusedSimpArgs false
def Stands (row : ByteArray) (a : Nat) (X : List UInt8) : Prop := ∃ Z, row.data.toList.drop a = X ++ Z
def Ends (row : ByteArray) (a : Nat) (X : List UInt8) : Prop := a ≤ row.size ∧ ∃ Y, Y ≠ [] ∧ row.data.toList.drop a ++ Y = X
theorem row_len (row : ByteArray) : row.data.toList.length = row.size := Array.length_toList
theorem Stands.split {row : ByteArray} {a : Nat} {X Y : List UInt8} (h : Stands row a (X ++ Y)) : Stands row a X ∧ Stands row (a + X.length) Y := by
  obtain ⟨Z, h⟩ := h
  refine ⟨⟨Y ++ Z, by rw [h, List.append_assoc]⟩, Z, ?_⟩
  rw [← List.drop_drop, h, List.append_assoc, List.drop_left]
theorem Stands.size {row : ByteArray} {a : Nat} {X : List UInt8} (h : Stands row a X) (ha : a ≤ row.size) : a + X.length ≤ row.size := by
  obtain ⟨Z, h⟩ := h
  have h1 := congrArg List.length h
  rw [List.length_drop, row_len, List.length_append] at h1
  omega
theorem Stands.inside {row : ByteArray} {a : Nat} {X : List UInt8} (h : Stands row a X) (hX : X ≠ []) : a ≤ row.size := by
  obtain ⟨Z, h⟩ := h
  have h1 := congrArg List.length h
  rw [List.length_drop, row_len, List.length_append] at h1
  have := List.length_pos_iff.2 hX
  omega
theorem Ends.split {row : ByteArray} {a : Nat} {X Y : List UInt8} (h : Ends row a (X ++ Y)) : Ends row a X ∨ (Stands row a X ∧ Ends row (a + X.length) Y) := by
  obtain ⟨ha, Z, hZ, h⟩ := h
  have hl : (row.data.toList.drop a).length = row.size - a := by rw [List.length_drop, row_len]
  rcases List.append_eq_append_iff.1 h with ⟨us, h1, h2⟩ | ⟨bs, h1, h2⟩
  · by_cases has : us = []
    · subst has
      simp at h1 h2
      refine .inr ⟨⟨[], by simp [h1]⟩, by rw [h1, hl]; omega, Z, hZ, ?_⟩
      rw [← List.drop_drop, h1, List.drop_length, List.nil_append, h2]
    · exact .inl ⟨ha, us, has, h1.symm⟩
  · have hs : Stands row a X := ⟨bs, h1⟩
    refine .inr ⟨hs, hs.size ha, Z, hZ, ?_⟩
    rw [← List.drop_drop, h1, List.drop_left, h2]
theorem text_full {row : ByteArray} {a : Nat} {X : List UInt8} (h : Stands row a X) (ha : a ≤ row.size) : rText row X.length ⟨a, none⟩ = (⟨X.toArray⟩, ⟨a + X.length, none⟩) := by
  have hs := h.size ha
  rw [rText_ok row X.length ⟨a, none⟩ rfl (by simp only; omega)]
  congr 1
  obtain ⟨Z, h⟩ := h
  apply ByteArray.ext
  rw [ByteArray.data_extract]
  apply Array.toList_inj.1
  rw [Array.toList_extract]
  simp only [List.extract_eq_take_drop, Nat.add_sub_cancel_left]
  rw [h, List.take_left]
theorem encNum_ne (n : Nat) : encNum n ≠ [] := by
  by_cases h : n < 128
  · rw [encNum_small h]; simp
  · rw [encNum_big h]; simp
theorem numFrom_full {row : ByteArray} : ∀ (k n a sh sum : Nat), n < 128 ^ (k + 1) → Stands row a (encNum n) → rNumFrom row (k + 1) sh sum ⟨a, none⟩ = (sum + n * 2 ^ sh, ⟨a + (encNum n).length, none⟩)
  | k, n, a, sh, sum, hn, h => by
    have ha := h.inside (encNum_ne n)
    by_cases hs : n < 128
    · rw [encNum_small hs] at h ⊢
      have ht := text_full h ha
      simp only [List.length_cons, List.length_nil, Nat.zero_add] at ht ⊢
      have hc : n.toUInt8.toNat = n := by simp [Nat.toUInt8]; omega
      unfold rNumFrom
      rw [ht]
      simp only [hc, hs, if_true, Nat.mod_eq_of_lt hs]
    · have e := encNum_big hs
      rw [e] at h ⊢
      have h2 : Stands row a ([(n % 128 + 128).toUInt8] ++ encNum (n / 128)) := h
      obtain ⟨g1, g2⟩ := h2.split
      have ht := text_full g1 ha
      simp only [List.length_cons, List.length_nil, Nat.zero_add] at ht g2 ⊢
      have hc : (n % 128 + 128).toUInt8.toNat = n % 128 + 128 := by simp [Nat.toUInt8]; omega
      unfold rNumFrom
      rw [ht]
      have hcn : ¬ n % 128 + 128 < 128 := by omega
      have hcm : (n % 128 + 128) % 128 = n % 128 := by omega
      simp only [hc, hcn, if_false, hcm]
      cases k with
      | zero => exact absurd hn (by omega)
      | succ k =>
        rw [numFrom_full k (n / 128) (a + 1) (sh + 7) _ (by rw [Nat.pow_succ] at hn; omega) g2]
        have hp : 2 ^ (sh + 7) = 128 * 2 ^ sh := by rw [Nat.pow_add]; omega
        have hd : n = n % 128 + 128 * (n / 128) := by omega
        congr 1
        · rw [hp]
          have : n * 2 ^ sh = n % 128 * 2 ^ sh + n / 128 * (128 * 2 ^ sh) := by
            rw [show n / 128 * (128 * 2 ^ sh) = 128 * (n / 128) * 2 ^ sh by rw [← Nat.mul_assoc, Nat.mul_comm (n / 128) 128], ← Nat.add_mul]
            congr 1
          rw [this]; omega
        · congr 1; omega
theorem num_full {row : ByteArray} {a : Nat} {z : Int} (h0 : 0 ≤ z) (h1 : z ≤ 9223372036854775807) (h : Stands row a (encInt z)) : rNum row ⟨a, none⟩ = (z.toNat, ⟨a + (encInt z).length, none⟩) := by
  have := numFrom_full 8 z.toNat a 0 0 (by rw [show 128 ^ (8 + 1) = 9223372036854775808 from rfl]; omega) h
  simpa [rNum, encInt] using this
theorem upTo_full {row : ByteArray} {a n : Nat} {z : Int} (h0 : 0 ≤ z) (hz : z ≤ n) (hn : n ≤ 1000) (h : Stands row a (encInt z)) : rUpTo row n ⟨a, none⟩ = (z.toNat, ⟨a + (encInt z).length, none⟩) := by
  unfold rUpTo
  rw [num_full h0 (by omega) h, if_neg (by simp only; omega)]
theorem key_full {row : ByteArray} {a : Nat} {k : ByteArray} (hk : k.size ≤ 6) (h : Stands row a (encKey k)) : rKey row ⟨a, none⟩ = (k, ⟨a + (encKey k).length, none⟩) := by
  unfold encKey at h
  obtain ⟨g1, g2⟩ := h.split
  have e : encNum k.size = encInt (k.size : Int) := by simp [encInt]
  have ha := g1.size (g1.inside (encNum_ne _))
  rw [e] at g1 g2 ha
  have h1 := upTo_full (n := 6) (by omega) (by omega) (by omega) g1
  have h2 := text_full g2 ha
  have h3 : k.data.toList.length = k.size := Array.length_toList
  rw [h3] at h2
  unfold rKey
  rw [h1]
  simp only [Int.toNat_natCast]
  rw [h2]
  unfold encKey
  rw [List.length_append, h3, e]
  simp only [Array.toArray_toList]
  rw [Nat.add_assoc]
structure Rec.tidy (x : Rec) : Prop where
  session : 0 ≤ x.session ∧ x.session ≤ 9223372036854775807
  epoch : 0 ≤ x.epoch ∧ x.epoch ≤ 9223372036854775807
  number : 0 ≤ x.number ∧ x.number ≤ 9223372036854775807
  value : 0 ≤ x.value ∧ x.value ≤ 9223372036854775807
  key : x.key.size ≤ 6
theorem encRec_form (x : Rec) : encRec x = encInt x.session ++ (encInt x.epoch ++ (encInt x.number ++ (encKey x.key ++ encInt x.value))) := by
  simp [encRec, encInts]
theorem rec_full {row : ByteArray} {a : Nat} {x : Rec} (hx : x.tidy) (h : Stands row a (encRec x)) : rRec row ⟨a, none⟩ = (x, ⟨a + (encRec x).length, none⟩) := by
  rw [encRec_form] at h ⊢
  obtain ⟨g1, h⟩ := h.split
  obtain ⟨g2, h⟩ := h.split
  obtain ⟨g3, h⟩ := h.split
  obtain ⟨g4, g5⟩ := h.split
  have e1 := num_full hx.session.1 hx.session.2 g1
  have e2 := num_full hx.epoch.1 hx.epoch.2 g2
  have e3 := num_full hx.number.1 hx.number.2 g3
  have e4 := key_full hx.key g4
  have e5 := num_full hx.value.1 hx.value.2 g5
  simp only [rRec, e1, e2, e3, e4, e5, List.length_append]
  refine Prod.ext ?_ ?_
  · obtain ⟨s, e, n, k, v⟩ := x
    have h1 := hx.session.1
    have h2 := hx.epoch.1
    have h3 := hx.number.1
    have h4 := hx.value.1
    simp only [Rec.mk.injEq, true_and] at h1 h2 h3 h4 ⊢
    omega
  · simp only [Rs.mk.injEq, and_true]; omega
structure Ky.tidy (k : Ky) : Prop where
  count : 0 ≤ k.count ∧ k.count ≤ 9223372036854775807
  fold : 0 ≤ k.fold ∧ k.fold ≤ 9223372036854775807
  held : 0 ≤ k.held ∧ k.held ≤ 9223372036854775807
  name : k.name.size ≤ 6
theorem encKy_form (k : Ky) : encKy k = encKey k.name ++ (encInt k.count ++ (encInt k.fold ++ encInt k.held)) := by simp [encKy, encInts]
theorem ky_full {row : ByteArray} {a : Nat} {k : Ky} (hk : k.tidy) (h : Stands row a (encKy k)) : rKy row ⟨a, none⟩ = (k, ⟨a + (encKy k).length, none⟩) := by
  rw [encKy_form] at h ⊢
  obtain ⟨g1, h⟩ := h.split
  obtain ⟨g2, h⟩ := h.split
  obtain ⟨g3, g4⟩ := h.split
  have e1 := key_full hk.name g1
  have e2 := num_full hk.count.1 hk.count.2 g2
  have e3 := num_full hk.fold.1 hk.fold.2 g3
  have e4 := num_full hk.held.1 hk.held.2 g4
  simp only [rKy, e1, e2, e3, e4, List.length_append]
  refine Prod.ext ?_ ?_
  · obtain ⟨s, e, n, v⟩ := k
    have h1 := hk.count.1
    have h2 := hk.fold.1
    have h3 := hk.held.1
    simp only [Ky.mk.injEq, true_and] at h1 h2 h3 ⊢
    omega
  · simp only [Rs.mk.injEq, and_true]; omega
theorem pair_full {row : ByteArray} {a : Nat} {l : Ln} (h1 : 0 ≤ l.epoch ∧ l.epoch ≤ 9223372036854775807) (h2 : 0 ≤ l.base ∧ l.base ≤ 9223372036854775807) (h : Stands row a (encSess l)) : rPair row ⟨a, none⟩ = ((l.epoch, l.base), ⟨a + (encSess l).length, none⟩) := by
  have e : encSess l = encInt l.epoch ++ encInt l.base := by simp [encSess, encInts]
  rw [e] at h ⊢
  obtain ⟨g1, g2⟩ := h.split
  have e1 := num_full h1.1 h1.2 g1
  have e2 := num_full h2.1 h2.2 g2
  simp only [rPair, e1, e2, List.length_append]
  refine Prod.ext ?_ ?_
  · simp only [Prod.mk.injEq]; omega
  · simp only [Rs.mk.injEq, and_true]; omega
theorem many_full {α β : Type} {row : ByteArray} {f : Rs → β × Rs} {enc : α → List UInt8} {g : α → β} : ∀ (l : List α) (a : Nat), (∀ x ∈ l, ∀ a, Stands row a (enc x) → f ⟨a, none⟩ = (g x, ⟨a + (enc x).length, none⟩)) → Stands row a (l.flatMap enc) →
    ∀ k, k ≤ l.length → rMany f k ⟨a, none⟩ = ((l.take k).map g, ⟨a + ((l.take k).flatMap enc).length, none⟩)
  | l, a, hf, h, 0, _ => by simp [rMany]
  | l, a, hf, h, k + 1, hk => by
    have ih := many_full l a hf h k (by omega)
    have hx : l[k]? = some l[k] := List.getElem?_eq_getElem (by omega)
    have ht : l.take (k + 1) = l.take k ++ [l[k]] := by rw [List.take_add_one, hx]; rfl
    have hs : Stands row a ((l.take (k + 1)).flatMap enc) := by
      rw [← List.take_append_drop (k + 1) l, List.flatMap_append] at h
      exact h.split.1
    rw [ht, List.flatMap_append] at hs
    have g2 := hs.split.2
    simp only [List.flatMap_cons, List.flatMap_nil, List.append_nil] at g2
    have e := hf l[k] (List.getElem_mem _) _ g2
    simp only [rMany, ih, e, ht, List.map_append, List.map_cons, List.map_nil, List.flatMap_append, List.length_append, List.flatMap_cons, List.flatMap_nil, List.append_nil]
    rw [Nat.add_assoc]
end Go.Proofs.YthedkdbgfdjlkaaGreatDoor

namespace Go.Proofs.YthedkdbgfdjlkaaGreatDoor
set_option linter.unusedVariables false
set_option linter.unusedSimpArgs false
structure St.tidy (s : St) : Prop where
  fine : s.fine
  good : s.good
  sound : s.sound
  many : distinct s.names ≤ 4
  fold : ∀ k ∈ s.keys, 0 ≤ k.fold ∧ k.fold ≤ 4294967295
def recOf (i : Nat) (e : Int) (y : Wt) : Rec := ⟨i, e, y.num, y.key, y.val⟩
theorem putW_last : ∀ (ws : List Wt) (y : Wt), (∀ z ∈ ws, z.num < y.num) → putW y ws = ws ++ [y]
  | [], y, _ => rfl
  | z :: r, y, h => by
    have h1 := h z (by simp)
    have h2 : ¬ y.num < z.num := by omega
    simp only [putW, if_neg h2, List.cons_append]
    rw [putW_last r y (fun w hw => h w (by simp [hw]))]
theorem drainW_none (b : Int) (ws : List Wt) (ks : List Ky) (h : ∀ z ∈ ws, b < z.num) : drainW b ws ks = (b, ws, ks) := by
  cases ws with
  | nil => rfl
  | cons z r =>
    have := h z (by simp)
    have h2 : ¬ z.num = b := by omega
    simp only [drainW, if_neg h2]
theorem accept_waits {t : St} {i : Nat} {l : Ln} (hi : i < 4) (hl : t.lanes[i]? = some l) {y : Wt} (hy : y.sound) (hb : 0 ≤ l.base) (hw : l.base < y.num ∧ y.num < l.base + 4) (hlast : ∀ z ∈ l.ws, z.num < y.num) (habove : ∀ z ∈ l.ws, l.base < z.num)
    (hm : ¬ (isIn y.key t.names = false ∧ 4 ≤ distinct t.names)) (hr : t.records < 1000) :
    accept t (recOf i l.epoch y) = ((l.base, 0), ⟨t.lanes.set i ⟨l.epoch, l.base, l.ws ++ [y]⟩, t.keys⟩) := by
  obtain ⟨h1, h2, h3⟩ := hy
  have hl' : t.lanes[((i : Int)).toNat]? = some l := by simpa using hl
  have hset : t.lanes.set i l = t.lanes := by
    apply List.ext_getElem?
    intro j
    rw [List.getElem?_set]
    split
    · rename_i e; subst e
      rw [hl]
      simp [(List.getElem?_eq_some_iff.1 hl).1]
    · rfl
  have hany : l.ws.any (fun z => z.num == y.num) = false := by
    rw [List.any_eq_false]
    intro z hz
    have := hlast z hz
    simp
    omega
  unfold accept recOf
  simp only
  rw [if_neg (by omega), if_neg (by rw [h1]; simp; omega)]
  split
  · rename_i e; rw [hl'] at e; cases e
  · rename_i l0 e
    rw [hl'] at e; cases e
    have ht : l.turned l.epoch = l := by unfold Ln.turned; rw [if_neg (by omega)]
    unfold acceptIn
    simp only [ht, Int.toNat_natCast]
    rw [if_neg (by omega), if_neg (by omega), if_neg (by rw [hany]; simp; omega), hset, if_neg hm, if_neg (by show ¬ 1000 ≤ t.records; omega)]
    rw [putW_last _ _ hlast, drainW_none l.base (l.ws ++ [y]) t.keys (fun z hz => by
      rcases List.mem_append.1 hz with h | h
      · exact habove z h
      · simp at h; subst h; exact hw.1)]
theorem fill {ks : List Ky} {i : Nat} (C : Ln → List Ln) (hi : i < 4) (hC : ∀ l, (C l)[i]? = some l) (hset : ∀ l l', (C l).set i l' = C l') {w0 : Int} (hw : ∀ l, waits (C l) = w0 + l.ws.length)
    {N : List ByteArray} (hN : distinct N ≤ 4) {l : Ln} (hn : ∀ j k, k ∈ (⟨C ⟨l.epoch, l.base, l.ws.take j⟩, ks⟩ : St).names → k ∈ N) (hlN : ∀ y ∈ l.ws, y.key ∈ N) (hb : 0 ≤ l.base) (hup : l.ws.Pairwise fun a b => a.num < b.num) (hwin : ∀ y ∈ l.ws, l.base < y.num ∧ y.num < l.base + 4) (hsd : ∀ y ∈ l.ws, y.sound)
    (htot : counts ks + w0 + l.ws.length ≤ 1000) (R : List Rec) : ∀ (m j : Nat), j + m = l.ws.length → acceptAll ⟨C ⟨l.epoch, l.base, l.ws.take j⟩, ks⟩ ((l.ws.drop j).map (recOf i l.epoch) ++ R) = acceptAll ⟨C l, ks⟩ R
  | 0, j, h => by
    rw [List.drop_eq_nil_of_le (by omega), List.take_of_length_le (by omega)]
    rfl
  | m + 1, j, h => by
    have hj : j < l.ws.length := by omega
    have hd : l.ws.drop j = l.ws[j] :: l.ws.drop (j + 1) := List.drop_eq_getElem_cons hj
    have hmem : l.ws[j] ∈ l.ws := List.getElem_mem hj
    have ht : l.ws.take (j + 1) = l.ws.take j ++ [l.ws[j]] := by rw [List.take_add_one, List.getElem?_eq_getElem hj]; rfl
    have hlast : ∀ z ∈ l.ws.take j, z.num < l.ws[j].num := fun z hz => by
      obtain ⟨p, hp, e⟩ := List.getElem_of_mem hz
      rw [List.length_take] at hp
      rw [List.getElem_take] at e
      subst e
      exact List.pairwise_iff_getElem.1 hup p j (by omega) hj (by omega)
    have hrec : (⟨C ⟨l.epoch, l.base, l.ws.take j⟩, ks⟩ : St).records < 1000 := by
      unfold St.records
      rw [hw]
      simp only [List.length_take]
      omega
    have hm : ¬ (isIn l.ws[j].key (⟨C ⟨l.epoch, l.base, l.ws.take j⟩, ks⟩ : St).names = false ∧ 4 ≤ distinct (⟨C ⟨l.epoch, l.base, l.ws.take j⟩, ks⟩ : St).names) := by
      rintro ⟨g1, g2⟩
      have := distinct_mono (A := l.ws[j].key :: (⟨C ⟨l.epoch, l.base, l.ws.take j⟩, ks⟩ : St).names) (B := N) (fun k hk => by
        rcases List.mem_cons.1 hk with e | hk
        · subst e; exact hlN _ hmem
        · exact hn j k hk)
      simp only [distinct, g1, Bool.false_eq_true, if_false] at this
      omega
    have ha := accept_waits (t := ⟨C ⟨l.epoch, l.base, l.ws.take j⟩, ks⟩) hi (hC _) (hsd _ hmem) hb (hwin _ hmem) hlast (fun z hz => (hwin z (List.mem_of_mem_take hz)).1) hm hrec
    simp only at ha
    rw [hd, List.map_cons, List.cons_append]
    simp only [acceptAll]
    rw [ha]
    simp only [if_true]
    rw [hset, ← ht]
    exact fill C hi hC hset hw hN hn hlN hb hup hwin hsd htot R m (j + 1) (by omega)
def pairsOf (s : St) : List (Int × Int) := s.lanes.map fun l => (l.epoch, l.base)
theorem acceptAll_own {s : St} (h : s.tidy) : acceptAll (bare (pairsOf s) s.keys) s.recs = some s := by
  obtain ⟨ls, ks⟩ := s
  have h4 := h.fine.four
  match ls, h4 with
  | [l0, l1, l2, l3], _ =>
    have htot := h.fine.total
    simp only [St.records, waits] at htot
    have hN := h.many
    have hmem : ∀ l ∈ [l0, l1, l2, l3], ∀ y ∈ l.ws, y.key ∈ (⟨[l0, l1, l2, l3], ks⟩ : St).names := fun l hl y hy => by
      unfold St.names
      exact List.mem_append_right _ (List.mem_flatMap.2 ⟨l, hl, List.mem_map_of_mem hy⟩)
    have hsub : ∀ ls' : List Ln, (∀ l' ∈ ls', ∃ l ∈ [l0, l1, l2, l3], ∀ y ∈ l'.ws, y ∈ l.ws) → ∀ k, k ∈ (⟨ls', ks⟩ : St).names → k ∈ (⟨[l0, l1, l2, l3], ks⟩ : St).names := fun ls' hs k hk => by
      unfold St.names at hk
      rcases List.mem_append.1 hk with hk | hk
      · unfold St.names
        exact List.mem_append_left _ hk
      · obtain ⟨l', hl', hk⟩ := List.mem_flatMap.1 hk
        obtain ⟨y, hy, rfl⟩ := List.mem_map.1 hk
        obtain ⟨l, hl, hs⟩ := hs l' hl'
        exact hmem l hl y (hs y hy)
    have hf : ∀ l ∈ [l0, l1, l2, l3], 0 ≤ l.base := fun l hl => (h.fine.lane l hl).2.2.1
    have hg : ∀ l ∈ [l0, l1, l2, l3], (l.ws.Pairwise fun a b => a.num < b.num) ∧ ∀ y ∈ l.ws, l.base < y.num ∧ y.num < l.base + 4 := fun l hl => h.good.wait l hl
    have hd : ∀ l ∈ [l0, l1, l2, l3], ∀ y ∈ l.ws, y.sound := fun l hl => h.sound.wt l hl
    have hnil : ∀ l : Ln, (⟨l.epoch, l.base, []⟩ : Ln) = ⟨l.epoch, l.base, l.ws.take 0⟩ := fun l => by simp
    have hrec : (⟨[l0, l1, l2, l3], ks⟩ : St).recs = l0.ws.map (recOf 0 l0.epoch) ++ (l1.ws.map (recOf 1 l1.epoch) ++ (l2.ws.map (recOf 2 l2.epoch) ++ (l3.ws.map (recOf 3 l3.epoch) ++ []))) := rfl
    have hbare : bare (pairsOf ⟨[l0, l1, l2, l3], ks⟩) ks = ⟨[⟨l0.epoch, l0.base, l0.ws.take 0⟩, ⟨l1.epoch, l1.base, []⟩, ⟨l2.epoch, l2.base, []⟩, ⟨l3.epoch, l3.base, []⟩], ks⟩ := by simp [bare, pairsOf]
    rw [hbare, hrec]
    have f0 := fill (ks := ks) (i := 0) (fun l => [l, ⟨l1.epoch, l1.base, []⟩, ⟨l2.epoch, l2.base, []⟩, ⟨l3.epoch, l3.base, []⟩]) (by omega) (fun l => rfl) (fun l l' => rfl) (w0 := 0) (fun l => by simp [waits]) hN (l := l0)
      (fun j => hsub _ (fun l' hl' => by
        simp only [List.mem_cons, List.not_mem_nil, or_false] at hl'
        rcases hl' with rfl | rfl | rfl | rfl
        · exact ⟨l0, by simp, fun y hy => List.mem_of_mem_take hy⟩
        · exact ⟨l0, by simp, fun y hy => by simp at hy⟩
        · exact ⟨l0, by simp, fun y hy => by simp at hy⟩
        · exact ⟨l0, by simp, fun y hy => by simp at hy⟩)) (hmem l0 (by simp)) (hf l0 (by simp)) (hg l0 (by simp)).1 (hg l0 (by simp)).2 (hd l0 (by simp)) (by omega)
    refine (f0 _ l0.ws.length 0 (by omega)).trans ?_
    simp only [hnil l1]
    have f1 := fill (ks := ks) (i := 1) (fun l => [l0, l, ⟨l2.epoch, l2.base, []⟩, ⟨l3.epoch, l3.base, []⟩]) (by omega) (fun l => rfl) (fun l l' => rfl) (w0 := l0.ws.length) (fun l => by simp [waits]) hN (l := l1)
      (fun j => hsub _ (fun l' hl' => by
        simp only [List.mem_cons, List.not_mem_nil, or_false] at hl'
        rcases hl' with rfl | rfl | rfl | rfl
        · exact ⟨l', by simp, fun y hy => hy⟩
        · exact ⟨l1, by simp, fun y hy => List.mem_of_mem_take hy⟩
        · exact ⟨l1, by simp, fun y hy => by simp at hy⟩
        · exact ⟨l1, by simp, fun y hy => by simp at hy⟩)) (hmem l1 (by simp)) (hf l1 (by simp)) (hg l1 (by simp)).1 (hg l1 (by simp)).2 (hd l1 (by simp)) (by omega)
    refine (f1 _ l1.ws.length 0 (by omega)).trans ?_
    simp only [hnil l2]
    have f2 := fill (ks := ks) (i := 2) (fun l => [l0, l1, l, ⟨l3.epoch, l3.base, []⟩]) (by omega) (fun l => rfl) (fun l l' => rfl) (w0 := l0.ws.length + l1.ws.length) (fun l => by simp [waits]; omega) hN (l := l2)
      (fun j => hsub _ (fun l' hl' => by
        simp only [List.mem_cons, List.not_mem_nil, or_false] at hl'
        rcases hl' with rfl | rfl | rfl | rfl
        · exact ⟨l', by simp, fun y hy => hy⟩
        · exact ⟨l', by simp, fun y hy => hy⟩
        · exact ⟨l2, by simp, fun y hy => List.mem_of_mem_take hy⟩
        · exact ⟨l2, by simp, fun y hy => by simp at hy⟩)) (hmem l2 (by simp)) (hf l2 (by simp)) (hg l2 (by simp)).1 (hg l2 (by simp)).2 (hd l2 (by simp)) (by omega)
    refine (f2 _ l2.ws.length 0 (by omega)).trans ?_
    simp only [hnil l3]
    have f3 := fill (ks := ks) (i := 3) (fun l => [l0, l1, l2, l]) (by omega) (fun l => rfl) (fun l l' => rfl) (w0 := l0.ws.length + l1.ws.length + l2.ws.length) (fun l => by simp [waits]; omega) hN (l := l3)
      (fun j => hsub _ (fun l' hl' => by
        simp only [List.mem_cons, List.not_mem_nil, or_false] at hl'
        rcases hl' with rfl | rfl | rfl | rfl
        · exact ⟨l', by simp, fun y hy => hy⟩
        · exact ⟨l', by simp, fun y hy => hy⟩
        · exact ⟨l', by simp, fun y hy => hy⟩
        · exact ⟨l3, by simp, fun y hy => List.mem_of_mem_take hy⟩)) (hmem l3 (by simp)) (hf l3 (by simp)) (hg l3 (by simp)).1 (hg l3 (by simp)).2 (hd l3 (by simp)) (by omega)
    refine (f3 _ l3.ws.length 0 (by omega)).trans ?_
    rfl
theorem less_empty {k : ByteArray} (h : okKey k = true) : less ⟨#[]⟩ k = true := by
  unfold okKey at h
  unfold less
  split at h
  · cases h
  · rename_i c r e
    rw [e]; rfl
theorem keysCan_own : ∀ {last : ByteArray} {ks : List Ky}, (∀ k ∈ ks, keyCan k = true ∧ less last k.name = true) → (ks.Pairwise fun a b => less a.name b.name = true) → keysCan last ks = true
  | last, [], _, _ => rfl
  | last, k :: r, h, hp => by
    rw [List.pairwise_cons] at hp
    have h1 := h k (by simp)
    simp only [keysCan, h1.1, h1.2, Bool.true_and]
    exact keysCan_own (fun k' hk' => ⟨(h k' (by simp [hk'])).1, hp.1 k' hk'⟩) hp.2
theorem basesOf_own : ∀ ls : List Ln, basesOf (ls.map fun l => (l.epoch, l.base)) = baseSum ls
  | [] => rfl
  | l :: r => by simp [basesOf, baseSum, basesOf_own r]
theorem count_le_sum : ∀ {ks : List Ky}, (∀ k ∈ ks, 1 ≤ k.count) → (∀ k ∈ ks, k.count ≤ counts ks) ∧ 0 ≤ counts ks
  | [], _ => by simp [counts]
  | y :: r, h => by
    obtain ⟨h1, h2⟩ := count_le_sum (ks := r) (fun k hk => h k (by simp [hk]))
    have h3 := h y (by simp)
    refine ⟨fun k hk => ?_, by simp only [counts]; omega⟩
    simp only [counts]
    rcases List.mem_cons.1 hk with e | hk
    · subst e; omega
    · have := h1 k hk; omega
theorem waits_nonneg : ∀ ls : List Ln, 0 ≤ waits ls
  | [] => by simp [waits]
  | l :: r => by have := waits_nonneg r; simp only [waits]; omega
theorem St.tidy.counts_le {s : St} (h : s.tidy) : counts s.keys ≤ 1000 := by
  have := h.fine.total
  have := waits_nonneg s.lanes
  unfold St.records at *
  omega
theorem canBe_own {s : St} (h : s.tidy) : canBe (pairsOf s) s.keys = true := by
  have hc := h.counts_le
  obtain ⟨h1, h2⟩ := count_le_sum (fun k hk => (h.fine.key k hk).1)
  have hk : ∀ k ∈ s.keys, keyCan k = true := fun k hk => by
    have a1 := h.sound.kname k hk
    have a2 := h.fold k hk
    have a3 := h.fine.key k hk
    have a4 := h1 k hk
    simp [keyCan, a1]
    omega
  unfold canBe
  rw [keysCan_own (fun k hk' => ⟨hk k hk', less_empty (h.sound.kname k hk')⟩) h.good.sorted]
  have hs : (pairsOf s).all sessCan = true := by
    rw [List.all_eq_true]
    intro p hp
    obtain ⟨l, hl, rfl⟩ := List.mem_map.1 hp
    have := h.fine.lane l hl
    simp [sessCan]
    omega
  have hb := h.sound.based
  have hb2 : basesOf (pairsOf s) = baseSum s.lanes := basesOf_own _
  have h4 : (pairsOf s).length = 4 := by simp [pairsOf, h.fine.four]
  have hf := h.good.few
  rw [hs, hb2]
  simp [h4, hf, hc, hb]
theorem restore_own {s : St} (h : s.tidy) : restore (pairsOf s) s.keys s.recs = some s := by
  unfold restore
  rw [canBe_own h, if_pos rfl, acceptAll_own h]
theorem ky_tidy {s : St} (h : s.tidy) : ∀ k ∈ s.keys, k.tidy := fun k hk => by
  obtain ⟨h1, h2⟩ := count_le_sum (fun k hk => (h.fine.key k hk).1)
  have a1 := okKey_size (h.sound.kname k hk)
  have a2 := h.fold k hk
  have a3 := h.fine.key k hk
  have a4 := h1 k hk
  have := h.counts_le
  exact ⟨by omega, by omega, by omega, a1.2⟩
theorem rec_tidy {s : St} (h : s.tidy) : ∀ x ∈ s.recs, x.tidy := fun x hx => by
  obtain ⟨j, l, y, h1, h2, rfl⟩ := mem_recsFrom hx
  have hl := List.mem_of_getElem? h1
  have hj : j < 4 := by rw [← h.fine.four]; exact (List.getElem?_eq_some_iff.1 h1).1
  have a1 := h.fine.lane l hl
  have a2 := (h.good.wait l hl).2 y h2
  obtain ⟨b1, b2, b3⟩ := h.sound.wt l hl y h2
  have := okKey_size b1
  exact ⟨by simp only; omega, by simp only; omega, by simp only; omega, by simp only; omega, by simp only; omega⟩
theorem recs_len {s : St} (h : s.tidy) : s.recs.length ≤ 12 := by
  have h1 : ∀ l ∈ s.lanes, l.ws.length ≤ 3 := fun l hl => by
    obtain ⟨g1, g2⟩ := h.good.wait l hl
    by_cases hc : l.ws.length ≤ 3
    · exact hc
    · exfalso
      have p := List.pairwise_iff_getElem.1 g1
      have q0 := p 0 1 (by omega) (by omega) (by omega)
      have q1 := p 1 2 (by omega) (by omega) (by omega)
      have q2 := p 2 3 (by omega) (by omega) (by omega)
      have a := g2 l.ws[0] (List.getElem_mem _)
      have b := g2 l.ws[3] (List.getElem_mem _)
      omega
  have h2 := recsFrom_len 0 s.lanes
  have h4 := h.fine.four
  obtain ⟨ls, ks⟩ := s
  match ls, h4 with
  | [l0, l1, l2, l3], _ =>
    have b0 := h1 l0 (by simp)
    have b1 := h1 l1 (by simp)
    have b2 := h1 l2 (by simp)
    have b3 := h1 l3 (by simp)
    simp only [waits] at h2
    unfold St.recs
    simp only
    omega
theorem parts_full {row : ByteArray} {a : Nat} {s : St} (h : s.tidy) (hs : Stands row a (encHead s)) : rParts row ⟨a, none⟩ = (pairsOf s, s.keys, s.recs, ⟨a + (encHead s).length, none⟩) := by
  have e : encHead s = markB ++ (s.lanes.flatMap encSess ++ (encInt s.keys.length ++ (s.keys.flatMap encKy ++ (encInt s.recs.length ++ s.recs.flatMap encRec)))) := by simp [encHead]
  rw [e] at hs ⊢
  obtain ⟨g0, hs⟩ := hs.split
  obtain ⟨g1, hs⟩ := hs.split
  obtain ⟨g2, hs⟩ := hs.split
  obtain ⟨g3, hs⟩ := hs.split
  obtain ⟨g4, g5⟩ := hs.split
  have hm : rMark row ⟨a, none⟩ = ⟨a + markB.length, none⟩ := by
    have := text_full g0 (g0.inside (by simp [markB]))
    unfold rMark
    rw [show (8 : Nat) = markB.length from rfl, this, if_pos (show (⟨markB.toArray⟩ : ByteArray) = markA from rfl)]
  have h1 := many_full (enc := encSess) (f := rPair row) (g := fun l => (l.epoch, l.base)) s.lanes _ (fun l hl a hs => pair_full ⟨(h.fine.lane l hl).1, (h.fine.lane l hl).2.1⟩ ⟨(h.fine.lane l hl).2.2.1, by have := (h.fine.lane l hl).2.2.2; omega⟩ hs) g1 s.lanes.length (Nat.le_refl _)
  have h3 := many_full (enc := encKy) (f := rKy row) (g := id) s.keys _ (fun k hk a hs => ky_full (ky_tidy h k hk) hs) g3 s.keys.length (Nat.le_refl _)
  have h5 := many_full (enc := encRec) (f := rRec row) (g := id) s.recs _ (fun x hx a hs => rec_full (rec_tidy h x hx) hs) g5 s.recs.length (Nat.le_refl _)
  rw [List.take_length] at h1 h3 h5
  rw [List.map_id] at h3 h5
  rw [h.fine.four] at h1
  have h2 := upTo_full (n := 4) (by omega) (by have := h.good.few; omega) (by omega) g2
  have h4 := upTo_full (n := 12) (by omega) (by have := recs_len h; omega) (by omega) g4
  simp only [rParts, hm, h1, h2, Int.toNat_natCast, h3, h4, h5, List.length_append]
  refine Prod.ext rfl (Prod.ext rfl (Prod.ext rfl ?_))
  simp only [Rs.mk.injEq, and_true]
  omega
theorem head_full {row : ByteArray} {a : Nat} {s : St} (h : s.tidy) (hs : Stands row a (encHead s)) : rHead row ⟨a, none⟩ = (some s, ⟨a + (encHead s).length, none⟩) := by
  unfold rHead
  rw [parts_full h hs]
  simp only [restore_own h]
theorem acc_full {row : ByteArray} {a : Nat} {s : St} {x : Rec} (hx : x.tidy) (h0 : (accept s x).1.2 = 0) (hs : Stands row a (encAcc x)) : rEntry row s ⟨a, none⟩ = ((accept s x).2, ⟨a + (encAcc x).length, none⟩) := by
  have hs' : Stands row a ([114] ++ encRec x) := hs
  obtain ⟨g1, g2⟩ := hs'.split
  have h1 := text_full g1 (g1.inside (by simp))
  simp only [List.length_cons, List.length_nil, Nat.zero_add] at h1 g2
  have h2 := rec_full hx g2
  simp only [rEntry, h1]
  rw [if_pos (show (⟨#[114]⟩ : ByteArray) = accR from rfl), h2]
  simp only [h0, if_true, encAcc, List.length_cons]
  refine Prod.ext rfl ?_
  simp only [Rs.mk.injEq, and_true]
  omega
theorem ans_full {row : ByteArray} {a : Nat} {s : St} {k : ByteArray} {n : Int} (hk : k.size ≤ 6) (hn : 0 ≤ n ∧ n ≤ 9223372036854775807) (h0 : (answer s k n).1 = 0) (hs : Stands row a (encAns k n)) : rEntry row s ⟨a, none⟩ = ((answer s k n).2, ⟨a + (encAns k n).length, none⟩) := by
  have hs' : Stands row a ([97] ++ (encKey k ++ encInt n)) := hs
  obtain ⟨g1, hs'⟩ := hs'.split
  obtain ⟨g2, g3⟩ := hs'.split
  have h1 := text_full g1 (g1.inside (by simp))
  simp only [List.length_cons, List.length_nil, Nat.zero_add] at h1 g2 g3
  have h2 := key_full hk g2
  have h3 := num_full hn.1 hn.2 g3
  have hnn : ((n.toNat : Nat) : Int) = n := by omega
  simp only [rEntry, h1]
  rw [if_neg (by simp [accR]), if_pos (show (⟨#[97]⟩ : ByteArray) = ansR from rfl), h2]
  simp only
  rw [h3]
  simp only [hnn, h0, if_true, encAns, List.length_cons, List.length_append]
  refine Prod.ext rfl ?_
  simp only [Rs.mk.injEq, and_true]
  omega
end Go.Proofs.YthedkdbgfdjlkaaGreatDoor

namespace Go.Proofs.YthedkdbgfdjlkaaGreatDoor
set_option linter.unusedVariables false
set_option linter.unusedSimpArgs false
inductive Entry (s : St) : List UInt8 → St → Prop
  | acc (x : Rec) (hx : x.tidy) (h0 : (accept s x).1.2 = 0) : Entry s (encAcc x) (accept s x).2
  | ans (k : ByteArray) (n : Int) (hk : k.size ≤ 6) (hn : 0 ≤ n ∧ n ≤ 9223372036854775807) (h0 : (answer s k n).1 = 0) : Entry s (encAns k n) (answer s k n).2
inductive Tells : List UInt8 → St → Prop
  | head (s : St) (h : s.tidy) : Tells (encHead s) s
  | more {T : List UInt8} {s : St} {e : List UInt8} {s' : St} (h : Tells T s) (he : Entry s e s') : Tells (T ++ e) s'
theorem Entry.pos {s s' : St} {e : List UInt8} (h : Entry s e s') : 1 ≤ e.length := by
  cases h <;> simp [encAcc, encAns]
theorem Entry.full {s s' : St} {e : List UInt8} (h : Entry s e s') {row : ByteArray} {a : Nat} (hs : Stands row a e) : rEntry row s ⟨a, none⟩ = (s', ⟨a + e.length, none⟩) := by
  cases h with
  | acc x hx h0 => exact acc_full hx h0 hs
  | ans k n hk hn h0 => exact ans_full hk hn h0 hs
theorem Tells.reads {T : List UInt8} {s : St} (h : Tells T s) : ∀ {row : ByteArray}, Stands row 0 T → ∃ s0 f c, rHead row ⟨0, none⟩ = (some s0, (rHead row ⟨0, none⟩).2) ∧ row.size + 1 ≤ f + T.length ∧ rLoop row (row.size + 1) s0 (rHead row ⟨0, none⟩).2 0 = rLoop row f s ⟨T.length, none⟩ c := by
  induction h with
  | head s h =>
    intro row hs
    have e := head_full h hs
    rw [Nat.zero_add] at e
    refine ⟨s, row.size + 1, 0, by rw [e], by omega, by rw [e]⟩
  | @more T s e s' h he ih =>
    intro row hs
    obtain ⟨g1, g2⟩ := hs.split
    obtain ⟨s0, f, c, h1, h2, h3⟩ := ih g1
    rw [Nat.zero_add] at g2
    have hp := he.pos
    have hin := g2.size (g2.inside (by intro e; rw [e] at hp; simp at hp))
    obtain ⟨f', rfl⟩ : ∃ f', f = f' + 1 := ⟨f - 1, by omega⟩
    refine ⟨s0, f', T.length, h1, by rw [List.length_append]; omega, h3.trans ?_⟩
    simp only [rLoop]
    rw [if_neg (by omega), he.full g2, List.length_append]
theorem Tells.whole {T : List UInt8} {s : St} (h : Tells T s) {row : ByteArray} (hr : row.data.toList = T) : opens row = some (s, T.length) := by
  obtain ⟨s0, f, c, h1, h2, h3⟩ := h.reads (row := row) ⟨[], by simp [hr]⟩
  have hl : T.length = row.size := by rw [← hr]; exact row_len row
  obtain ⟨f', rfl⟩ : ∃ f', f = f' + 1 := ⟨f - 1, by omega⟩
  have h4 : rLoop row (f' + 1) s ⟨T.length, none⟩ c = (s, T.length, ⟨T.length, none⟩) := by
    simp only [rLoop]
    rw [if_pos hl]
  unfold opens
  rw [h1]
  simp only
  rw [h3, h4]
end Go.Proofs.YthedkdbgfdjlkaaGreatDoor

namespace Go.Proofs.YthedkdbgfdjlkaaGreatDoor
set_option linter.unusedVariables false
set_option linter.unusedSimpArgs false
theorem accept_changed {s : St} {x : Rec} (hf : s.fine) (hx : x.fits) (h : (accept s x).2 ≠ s) : (accept s x).1.2 = 0 ∧ x.tidy := by
  obtain ⟨f1, f2, f3, f4, _⟩ := hx
  unfold inInt at f1 f2 f3 f4
  unfold accept at h ⊢
  split at h
  · exact absurd rfl h
  · rename_i h1
    rw [if_neg h1]
    split at h
    · exact absurd rfl h
    · rename_i h2
      rw [if_neg h2]
      have hk : okKey x.key = true := by
        cases e : okKey x.key
        · exact absurd (.inl e) h2
        · rfl
      have hsz := okKey_size hk
      split at h
      · exact absurd rfl h
      · rename_i l hl
        have hle := hf.lane l (List.mem_of_getElem? hl)
        unfold acceptIn at h ⊢
        split at h
        · exact absurd rfl h
        · rename_i h3
          simp only at h ⊢
          split at h
          · exact absurd rfl h
          · rename_i h4
            split at h
            · exact absurd rfl h
            · rename_i h5
              split at h
              · exact absurd rfl h
              · rename_i h6
                split at h
                · exact absurd rfl h
                · rename_i h7
                  rw [if_neg h3, if_neg h4, if_neg h5, if_neg h6, if_neg h7]
                  exact ⟨rfl, ⟨by omega, by omega, by omega, by omega, hsz.2⟩⟩
theorem answer_changed {s : St} {k : ByteArray} {n : Int} (hn : n ≤ 9223372036854775807) (h : (answer s k n).2 ≠ s) : (answer s k n).1 = 0 ∧ k.size ≤ 6 ∧ 0 ≤ n ∧ n ≤ 9223372036854775807 := by
  unfold answer at h ⊢
  split at h
  · exact absurd rfl h
  · rename_i h1
    rw [if_neg h1]
    have hk : okKey k = true := by simpa using h1
    have hsz := okKey_size hk
    split at h
    · exact absurd rfl h
    · split at h
      · exact absurd rfl h
      · rename_i h2
        rw [if_neg h2]
        exact ⟨rfl, hsz.2, by omega, hn⟩
def Grow (T : List UInt8) (s : St) (T' : List UInt8) (s' : St) : Prop := (T' = T ∧ s' = s) ∨ ∃ e, Entry s e s' ∧ T' = T ++ e
theorem Tells.grow {T T' : List UInt8} {s s' : St} (h : Tells T s) (g : Grow T s T' s') : Tells T' s' := by
  rcases g with ⟨rfl, rfl⟩ | ⟨e, he, rfl⟩
  · exact h
  · exact .more h he
theorem grow_acc {T T' : List UInt8} {s : St} {x : Rec} (hf : s.fine) (hx : x.fits) (h : tapeAcc T x (some s) (accept? (some s) x).2 T') : Grow T s T' (accept s x).2 := by
  rcases h with ⟨rfl, h⟩ | ⟨rfl, h, _⟩
  · exact .inl ⟨rfl, Option.some.inj h⟩
  · have hne : (accept s x).2 ≠ s := fun e => h (by simp [accept?, e])
    obtain ⟨h0, ht⟩ := accept_changed hf hx hne
    exact .inr ⟨_, .acc x ht h0, rfl⟩
theorem grow_ans {T T' : List UInt8} {s : St} {k : ByteArray} {n : Int} (hn : n ≤ 9223372036854775807) (h : tapeAnsw T k n (some s) (answer? (some s) k n).2 T') : Grow T s T' (answer s k n).2 := by
  rcases h with ⟨rfl, h⟩ | ⟨rfl, h, _⟩
  · exact .inl ⟨rfl, Option.some.inj h⟩
  · have hne : (answer s k n).2 ≠ s := fun e => h (by simp [answer?, e])
    obtain ⟨h0, h1, h2⟩ := answer_changed hn hne
    exact .inr ⟨_, .ans k n h1 h2 h0, rfl⟩
theorem relT_tidy {T : List UInt8} {w : World} {a : Addr} {s : St} {F : Nat → Prop} (h : RelT T w a (some s) F) : s.tidy := by
  have h1 := relT_fine h
  have h2 := relT_good h
  obtain ⟨b, _, _, _, h⟩ := h
  obtain ⟨_, E, B, V, vk, vb, Q, ks, _, h5, h6, _, _, _, h10⟩ := h
  exact ⟨h1, h2, h10, h6.many, fun k hk => h5.led.fold k (by rw [← h6.keys]; exact hk)⟩
end Go.Proofs.YthedkdbgfdjlkaaGreatDoor

namespace Go.Proofs.YthedkdbgfdjlkaaGreatDoor
set_option linter.unusedVariables false
set_option linter.unusedSimpArgs false
open Go.RowKit Go.Lib
def ptrs (n : Nat) (a : Nat → Addr) : List Value := (List.range n).map fun i => .pointer (some (a i))
theorem ptrs_at (n : Nat) (a : Nat → Addr) {k : Nat} (h : k < n) : (ptrs n a)[k]? = some (.pointer (some (a k))) := by simp [ptrs, h]
theorem ptrs_more (n : Nat) (a : Nat → Addr) (p : Addr) : ptrs (n + 1) (putAt a n p) = ptrs n a ++ [.pointer (some p)] := by
  unfold ptrs
  rw [List.range_succ, List.map_append]
  congr 1
  · refine List.map_congr_left fun i hi => ?_
    rw [List.mem_range] at hi
    rw [putAt_ne _ _ (by omega)]
  · simp [putAt_at]
structure KD where
  n : Nat
  b : Nat → List UInt8
  a : Nat → Addr
  s : Nat → St
  F : Nat → Nat → Prop
  v : Value
def keptCells (b : Nat → List UInt8) (a : Nat → Addr) : Nat → List Value
  | 0 => []
  | n + 1 => keptCells b a n ++ [.string ⟨(b n).toArray⟩, .pointer (some (a n))]
structure Kept (w : World) (wb N : Nat) (z : Nat → Nat) (K : KD) : Prop where
  cell : w.cell? ⟨wb, 2, none⟩ = some K.v
  row : w.ownsRow 0 144 2 K.v K.n (keptCells K.b K.a K.n)
  many : K.n ≤ N
  rel : ∀ i, i < K.n → RefRel N w (K.a i) (some (K.s i)) (K.F i)
  tel : ∀ i, i < K.n → Tells (K.b i) (K.s i)
  len : ∀ i, i < K.n → (K.b i).length ≤ 512 + 32 * N
  zv : ∀ g, K.v.ownBlock = some g → z g = 5
  zK : ∀ i, i < K.n → ∀ g, K.F i g → z g = 8 + 3 * i
theorem Kept.chg {F : Nat → Prop} {w w' : World} {wb N M : Nat} {z z' : Nat → Nat} {K : KD} (h : Kept w wb N z K) (c : Chg F w w') (hF : ∀ g, F g → ¬ (5 ≤ z g ∧ z g % 3 = 2)) (hc : w'.cell? ⟨wb, 2, none⟩ = some K.v) (hM : N ≤ M) (hz : ∀ g, g < w.heap.size → z' g = z g) : Kept w' wb M z' K where
  cell := hc
  row := c.row' h.row (fun g hg e => hF g e (by rw [h.zv g hg]; omega))
  many := Nat.le_trans h.many hM
  rel i hi := ref_more (ref_stable (h.rel i hi) (fun q hq => c.block q (ref_lt (h.rel i hi) hq) (fun e => hF q e (by rw [h.zK i hi q hq]; omega)))) hM
  tel := h.tel
  len i hi := by have := h.len i hi; omega
  zv g hg := (hz g (h.row.lt g hg).2).trans (h.zv g hg)
  zK i hi g hg := (hz g (ref_lt (h.rel i hi) hg)).trans (h.zK i hi g hg)
structure Wd (W0 w : World) (wb n N : Nat) (z : Nat → Nat) (pa ra : Nat → Addr) (st : Nat → Option St) (T : Nat → List UInt8) (FP FR : Nat → Nat → Prop) (B : Nat → Prop) (r : Nat → Value) (L : Nat → List Value) (vp vr : Value) (K : KD) : Prop where
  book : Book w wb 3 B r L
  c0 : w.cell? ⟨wb, 0, none⟩ = some vp
  c1 : w.cell? ⟨wb, 1, none⟩ = some vr
  rp : w.ownsRow 0 27 1 vp n (ptrs n pa)
  rr : w.ownsRow 0 130 1 vr n (ptrs n ra)
  many : n ≤ N
  relP : ∀ i, i < n → RelT (T i) w (pa i) (st i) (FP i)
  relR : ∀ i, i < n → RefRel N w (ra i) (st i) (FR i)
  lenT : ∀ i, i < n → (T i).length ≤ 512 + 32 * N
  lenL : ∀ x, x < 4 → (L x).length ≤ 16 * N
  zw : z wb = 1
  zp : ∀ g, vp.ownBlock = some g → z g = 2
  zr : ∀ g, vr.ownBlock = some g → z g = 3
  zB : ∀ g, B g → z g = 4
  zP : ∀ i, i < n → ∀ g, FP i g → z g = 6 + 3 * i
  zR : ∀ i, i < n → ∀ g, FR i g → z g = 7 + 3 * i
  low : ∀ g, g < W0.heap.size → z g = 0
  orig : Chg (fun _ => False) W0 w
  tel : ∀ i, i < n → ∀ s, st i = some s → Tells (T i) s
  kept : Kept w wb N z K
def Wx (W0 w : World) (wb n N : Nat) : Prop := ∃ z pa ra st T FP FR B r L vp vr K, Wd W0 w wb n N z pa ra st T FP FR B r L vp vr K
section
variable {W0 w : World} {wb n N : Nat} {z : Nat → Nat} {pa ra : Nat → Addr} {st : Nat → Option St} {T : Nat → List UInt8} {FP FR : Nat → Nat → Prop} {B : Nat → Prop} {r : Nat → Value} {L : Nat → List Value} {vp vr : Value} {K : KD}
theorem Wd.lt (h : Wd W0 w wb n N z pa ra st T FP FR B r L vp vr K) : wb < w.heap.size := h.book.lt
theorem Wd.keep (h : Wd W0 w wb n N z pa ra st T FP FR B r L vp vr K) {w' : World} (c : Chg (fun _ => False) w w') : Wd W0 w' wb n N z pa ra st T FP FR B r L vp vr K where
  book := h.book.chg c (fun _ f => f.elim)
  c0 := c.cellAt h.c0 id
  c1 := c.cellAt h.c1 id
  rp := c.row' h.rp (fun _ _ => id)
  rr := c.row' h.rr (fun _ _ => id)
  many := h.many
  relP i hi := relT_stable (h.relP i hi) (fun k hk => c.block k (relT_lt (h.relP i hi) hk) id)
  relR i hi := ref_stable (h.relR i hi) (fun k hk => c.block k (ref_lt (h.relR i hi) hk) id)
  lenT := h.lenT
  lenL := h.lenL
  zw := h.zw
  zp := h.zp
  zr := h.zr
  zB := h.zB
  zP := h.zP
  zR := h.zR
  low := h.low
  orig := h.orig.trans c (fun _ _ f => f.elim)
  tel := h.tel
  kept := h.kept.chg c (fun _ f => f.elim) (c.cellAt h.kept.cell id) (Nat.le_refl _) (fun _ _ => rfl)
theorem Wd.turn (h : Wd W0 w wb n N z pa ra st T FP FR B r L vp vr K) {k : Nat} (hk : k < n) {w1 w2 : World} {T' : List UInt8} {o' : Option St} {F' G' : Nat → Prop} (c1 : Chg (FP k) w w1) (hP : RelT T' w1 (pa k) o' F') (hF : ∀ g, F' g → FP k g ∨ w.heap.size ≤ g) (c2 : Chg (FR k) w1 w2) (hR : RefRel (N + 1) w2 (ra k) o' G') (hG : ∀ g, G' g → FR k g ∨ w1.heap.size ≤ g) (hT : T'.length ≤ 512 + 32 * (N + 1)) (ht : ∀ s, o' = some s → Tells T' s) : Wx W0 w2 wb n (N + 1) := by
  have hw := h.lt
  have z1 := c1.size
  have z2 := c2.size
  have cc : Chg (fun g => FP k g ∨ FR k g) w w2 := (c1.mono (fun _ f => .inl f)).trans c2 (fun _ _ f => .inr f)
  have hz : ∀ g, FP k g ∨ FR k g → z g = 6 + 3 * k ∨ z g = 7 + 3 * k := fun g hg => hg.elim (fun e => .inl (h.zP k hk g e)) (fun e => .inr (h.zR k hk g e))
  have hFl : ∀ g, FP k g → g < w.heap.size := fun g hg => relT_lt (h.relP k hk) hg
  have hGl : ∀ g, FR k g → g < w.heap.size := fun g hg => ref_lt (h.relR k hk) hg
  have hvpl : ∀ g, vp.ownBlock = some g → g < w.heap.size := fun g hg => (h.rp.lt g hg).2
  have hvrl : ∀ g, vr.ownBlock = some g → g < w.heap.size := fun g hg => (h.rr.lt g hg).2
  refine ⟨fun g => if g < w.heap.size then z g else if g < w1.heap.size then 6 + 3 * k else 7 + 3 * k, pa, ra, putAt st k o', putAt T k T', putAt FP k F', putAt FR k G', B, r, L, vp, vr, K, ?_⟩
  refine ⟨h.book.chg cc (fun g hg => ⟨fun e => ?_, fun e => ?_⟩), cc.cellAt h.c0 (fun e => ?_), cc.cellAt h.c1 (fun e => ?_), cc.row' h.rp (fun g hg e => ?_), cc.row' h.rr (fun g hg e => ?_), Nat.le_succ_of_le h.many, fun i hi => ?_, fun i hi => ?_, fun i hi => ?_, fun x hx => ?_, ?_, fun g hg => ?_, fun g hg => ?_, fun g hg => ?_, fun i hi g hg => ?_, fun i hi g hg => ?_, fun g hg => ?_, h.orig.trans cc (fun g hg f => ?_), fun i hi s hs => ?_, h.kept.chg cc (fun g hg => ?_) (cc.cellAt h.kept.cell (fun e => ?_)) (Nat.le_succ _) (fun g hg => ?_)⟩
  · have := h.zB g e; have := hz g hg; omega
  · have := hz g hg; rw [e, h.zw] at this; omega
  · have := hz _ e; rw [h.zw] at this; omega
  · have := hz _ e; rw [h.zw] at this; omega
  · have := h.zp g hg; have := hz g e; omega
  · have := h.zr g hg; have := hz g e; omega
  · by_cases e : i = k
    · subst e
      rw [putAt_at, putAt_at, putAt_at]
      refine relT_stable hP (fun q hq => c2.block q (relT_lt hP hq) (fun f => ?_))
      rcases hF q hq with e1 | e1
      · have := h.zP _ hi q e1; have := h.zR _ hi q f; omega
      · have := hGl q f; omega
    · rw [putAt_ne _ _ e, putAt_ne _ _ e, putAt_ne _ _ e]
      refine relT_stable (h.relP i hi) (fun q hq => cc.block q (relT_lt (h.relP i hi) hq) (fun f => ?_))
      have := h.zP i hi q hq
      have := hz q f
      omega
  · by_cases e : i = k
    · subst e
      rw [putAt_at, putAt_at]
      exact hR
    · rw [putAt_ne _ _ e, putAt_ne _ _ e]
      refine ref_more (ref_stable (h.relR i hi) (fun q hq => cc.block q (ref_lt (h.relR i hi) hq) (fun f => ?_))) (by omega)
      have := h.zR i hi q hq
      have := hz q f
      omega
  · by_cases e : i = k
    · subst e; rw [putAt_at]; exact hT
    · rw [putAt_ne _ _ e]; have := h.lenT i hi; omega
  · have := h.lenL x hx; omega
  · simp only [hw, if_true]; exact h.zw
  · simp only [hvpl g hg, if_true]; exact h.zp g hg
  · simp only [hvrl g hg, if_true]; exact h.zr g hg
  · simp only [(h.book.own g hg).2, if_true]; exact h.zB g hg
  · by_cases e : i = k
    · subst e
      rw [putAt_at] at hg
      rcases hF g hg with e1 | e1
      · simp only [hFl g e1, if_true]; exact h.zP _ hi g e1
      · have := relT_lt hP hg
        rw [if_neg (by omega), if_pos this]
    · rw [putAt_ne _ _ e] at hg
      simp only [relT_lt (h.relP i hi) hg, if_true]; exact h.zP i hi g hg
  · by_cases e : i = k
    · subst e
      rw [putAt_at] at hg
      rcases hG g hg with e1 | e1
      · simp only [hGl g e1, if_true]; exact h.zR _ hi g e1
      · rw [if_neg (by omega), if_neg (by omega)]
    · rw [putAt_ne _ _ e] at hg
      simp only [ref_lt (h.relR i hi) hg, if_true]; exact h.zR i hi g hg
  · have := h.orig.size
    rw [if_pos (by omega)]; exact h.low g hg
  · have := h.low g hg; have := hz g f; omega
  · by_cases e : i = k
    · subst e; rw [putAt_at] at hs ⊢; exact ht s hs
    · rw [putAt_ne _ _ e] at hs ⊢; exact h.tel i hi s hs
  · have := hz g hg; omega
  · have := hz _ e; rw [h.zw] at this; omega
  · simp only [hg, if_true]
theorem Wd.mark (h : Wd W0 w wb n N z pa ra st T FP FR B r L vp vr K) {k : Nat} (hk : k < n) {w1 w2 w3 : World} (c1 : Chg (FP k) w w1) (hP : RelT (T k) w1 (pa k) (st k) (FP k)) (c2 : Chg (fun _ => False) w1 w2) (hI : Inks w2 w.heap.size wb 3 B L w3) : Wx W0 w3 wb n (N + 1) := by
  have hw := h.lt
  have z1 := c1.size
  have z2 := c2.size
  obtain ⟨B', r', L', hB, hL, hBB, c3, hs⟩ := hI
  have z3 := c3.size
  have c12 : Chg (FP k) w w2 := c1.trans c2 (fun _ _ f => f.elim)
  have cc : Chg (fun g => FP k g ∨ g = wb ∨ B g) w w3 := (c12.mono (fun _ f => .inl f)).trans c3 (fun g hg f => by
    rcases f with f | f | f
    · exact .inr (.inl f)
    · exact .inr (.inr f)
    · omega)
  have hvpl : ∀ g, vp.ownBlock = some g → g < w.heap.size := fun g hg => (h.rp.lt g hg).2
  have hvrl : ∀ g, vr.ownBlock = some g → g < w.heap.size := fun g hg => (h.rr.lt g hg).2
  have hnw : ¬ FP k wb := fun f => by have := h.zP k hk wb f; rw [h.zw] at this; omega
  have hcell : ∀ j v, j < 3 → w.cell? ⟨wb, j, none⟩ = some v → w3.cell? ⟨wb, j, none⟩ = some v := fun j v hj hv => (hs.cell j (by omega)).trans (c12.cellAt hv hnw)
  refine ⟨fun g => if g < w.heap.size then z g else 4, pa, ra, st, T, FP, FR, B', r', L', vp, vr, K, ?_⟩
  refine ⟨hB, hcell 0 _ (by omega) h.c0, hcell 1 _ (by omega) h.c1, cc.row' h.rp (fun g hg e => ?_), cc.row' h.rr (fun g hg e => ?_), Nat.le_succ_of_le h.many, fun i hi => ?_, fun i hi => ?_, fun i hi => ?_, fun x hx => ?_, ?_, fun g hg => ?_, fun g hg => ?_, fun g hg => ?_, fun i hi g hg => ?_, fun i hi g hg => ?_, fun g hg => ?_, h.orig.trans cc (fun g hg f => ?_), h.tel, h.kept.chg cc (fun g hg => ?_) (hcell 2 _ (by omega) h.kept.cell) (Nat.le_succ _) (fun g hg => ?_)⟩
  · have := h.zp g hg
    rcases e with e | e | e
    · have := h.zP k hk g e; omega
    · rw [e, h.zw] at this; omega
    · have := h.zB g e; omega
  · have := h.zr g hg
    rcases e with e | e | e
    · have := h.zP k hk g e; omega
    · rw [e, h.zw] at this; omega
    · have := h.zB g e; omega
  · by_cases e : i = k
    · subst e
      refine relT_stable hP (fun q hq => ?_)
      have h1 := relT_lt hP hq
      have h0 := relT_lt (h.relP _ hi) hq
      have hzq := h.zP _ hi q hq
      refine (c3.block q (by omega) (fun f => ?_)).trans (c2.block q h1 id)
      rcases f with f | f | f
      · rw [f, h.zw] at hzq; omega
      · have := h.zB q f; omega
      · omega
    · refine relT_stable (h.relP i hi) (fun q hq => cc.block q (relT_lt (h.relP i hi) hq) (fun f => ?_))
      have hzq := h.zP i hi q hq
      rcases f with f | f | f
      · have := h.zP k hk q f; omega
      · rw [f, h.zw] at hzq; omega
      · have := h.zB q f; omega
  · refine ref_more (ref_stable (h.relR i hi) (fun q hq => cc.block q (ref_lt (h.relR i hi) hq) (fun f => ?_))) (by omega)
    have hzq := h.zR i hi q hq
    rcases f with f | f | f
    · have := h.zP k hk q f; omega
    · rw [f, h.zw] at hzq; omega
    · have := h.zB q f; omega
  · have := h.lenT i hi; omega
  · have := hL x hx; have := h.lenL x hx; omega
  · simp only [hw, if_true]; exact h.zw
  · simp only [hvpl g hg, if_true]; exact h.zp g hg
  · simp only [hvrl g hg, if_true]; exact h.zr g hg
  · rcases hBB g hg with e | e
    · simp only [(h.book.own g e).2, if_true]; exact h.zB g e
    · rw [if_neg (by omega)]
  · simp only [relT_lt (h.relP i hi) hg, if_true]; exact h.zP i hi g hg
  · simp only [ref_lt (h.relR i hi) hg, if_true]; exact h.zR i hi g hg
  · have := h.orig.size
    rw [if_pos (by omega)]; exact h.low g hg
  · have hl := h.low g hg
    rcases f with f | f | f
    · have := h.zP k hk g f; omega
    · rw [f, h.zw] at hl; omega
    · have := h.zB g f; omega
  · rcases hg with f | f | f
    · have := h.zP k hk g f; omega
    · rw [f, h.zw]; omega
    · have := h.zB g f; omega
  · simp only [hg, if_true]
end
end Go.Proofs.YthedkdbgfdjlkaaGreatDoor

namespace Go.Proofs.YthedkdbgfdjlkaaGreatDoor
set_option linter.unusedVariables false
set_option linter.unusedSimpArgs false
open Go.RowKit Go.Lib
theorem Tryz.infoPP : (Tryz.prog.info? 27).map (fun i => (i.zero, i.size, i.bytes)) = some (some (.pointer none), 1, 8) := by kernel_rfl
theorem Tryz.infoPR : (Tryz.prog.info? 130).map (fun i => (i.zero, i.size, i.bytes)) = some (some (.pointer none), 1, 8) := by kernel_rfl
abbrev blank15 : Array Value := #[.int .i64 0, .int .i64 0, .slice none 0 0, .int .i64 0, .int .i64 0, .slice none 0 0, .int .i64 0, .int .i64 0, .slice none 0 0, .int .i64 0, .int .i64 0, .slice none 0 0, .slice none 0 0, .slice none 0 0, .bool false]
theorem blank_new (w : World) : Blk (w.alloc (.cells blank15 137)) w.heap.size 15 (blank false) := by
  refine ⟨fun j hj => ?_, fun j => ?_⟩
  · rcases (by omega : j = 0 ∨ j = 1 ∨ j = 2 ∨ j = 3 ∨ j = 4 ∨ j = 5 ∨ j = 6 ∨ j = 7 ∨ j = 8 ∨ j = 9 ∨ j = 10 ∨ j = 11 ∨ j = 12 ∨ j = 13 ∨ j = 14) with rfl | rfl | rfl | rfl | rfl | rfl | rfl | rfl | rfl | rfl | rfl | rfl | rfl | rfl | rfl <;> exact World.cell?_alloc_at _ _ _ _ rfl
  · exact World.frozen?_alloc_at _ _ _ _ rfl
section
variable {W0 w : World} {wb n N : Nat} {z : Nat → Nat} {pa ra : Nat → Addr} {st : Nat → Option St} {T : Nat → List UInt8} {FP FR : Nat → Nat → Prop} {B : Nat → Prop} {r : Nat → Value} {L : Nat → List Value} {vp vr : Value} {K : KD}
theorem Wd.more (h : Wd W0 w wb n N z pa ra st T FP FR B r L vp vr K) {a : Addr} {F : Nat → Prop} {w1 w2 w3 wa w4 w5 : World} {vp' vr' : Value} {T' : List UInt8} {s : St} {a2 : Addr} {G : Nat → Prop} (hP : RelT T' w1 a (some s) F) (hF : ∀ k, F k → w.heap.size ≤ k) (ht : Tells T' s) (hT : T'.length ≤ 512 + 32 * (N + 1)) (c1 : Chg (fun _ => False) w w1)
    (o2 : w2.ownsRow 0 27 1 vp' (n + 1) (ptrs n pa ++ [.pointer (some a)])) (c2 : Chg (fun g => vp.ownBlock = some g) w1 w2) (wh2 : Wh w1.heap.size vp vp') (hw3 : w3 = w2.setCell ⟨wb, 0, none⟩ vp') (ca : Chg (fun _ => False) w3 wa) (hR : RefRel (N + 1) wa a2 (some s) G) (hG : ∀ g, G g → w2.heap.size ≤ g)
    (o4 : w4.ownsRow 0 130 1 vr' (n + 1) (ptrs n ra ++ [.pointer (some a2)])) (c4 : Chg (fun g => vr.ownBlock = some g) wa w4) (wh4 : Wh wa.heap.size vr vr') (hw5 : w5 = w4.setCell ⟨wb, 1, none⟩ vr') : Wx W0 w5 wb (n + 1) (N + 1) := by
  have hw := h.lt
  have z1 := c1.size
  have z2 := c2.size
  have hvpl : ∀ g, vp.ownBlock = some g → g < w.heap.size := fun g hg => (h.rp.lt g hg).2
  have hvrl : ∀ g, vr.ownBlock = some g → g < w.heap.size := fun g hg => (h.rr.lt g hg).2
  have c3 : Chg (fun q => q = wb) w2 w3 := by rw [hw3]; exact (Chg.refl (fun q => q = wb) w2).setCell (p := ⟨wb, 0, none⟩) (fun _ => rfl) _
  have hs3 : w3.heap.size = w2.heap.size := by rw [hw3]; simp [World.setCell]
  have za := ca.size
  have z4 := c4.size
  have c5 : Chg (fun q => q = wb) w4 w5 := by rw [hw5]; exact (Chg.refl (fun q => q = wb) w4).setCell (p := ⟨wb, 1, none⟩) (fun _ => rfl) _
  have z5 := c5.size
  have hs5 : w5.heap.size = w4.heap.size := by rw [hw5]; simp [World.setCell]
  have vpw : vp.ownBlock ≠ some wb := fun e => by have := h.zp wb e; rw [h.zw] at this; omega
  have vrw : vr.ownBlock ≠ some wb := fun e => by have := h.zr wb e; rw [h.zw] at this; omega
  have vp'w : vp'.ownBlock ≠ some wb := fun e => by
    rcases wh2 with e1 | e1
    · exact vpw (e1 ▸ e)
    · have := e1 _ e; omega
  have vr'w : vr'.ownBlock ≠ some wb := fun e => by
    rcases wh4 with e1 | e1
    · exact vrw (e1 ▸ e)
    · have := e1 _ e; omega
  -- w to w4, but for wb and the two rows
  have c13 : Chg (fun g => g = wb ∨ vp.ownBlock = some g) w w3 := ((c1.mono (fun _ f => f.elim)).trans c2 (fun _ _ f => .inr f)).trans c3 (fun _ _ f => .inl f)
  have c14 : Chg (fun g => g = wb ∨ vp.ownBlock = some g ∨ vr.ownBlock = some g) w w4 := ((c13.mono (fun g f => f.elim .inl (fun e => .inr (.inl e)))).trans ca (fun _ _ f => f.elim)).trans c4 (fun _ _ f => .inr (.inr f))
  have c15 : Chg (fun g => g = wb ∨ vp.ownBlock = some g ∨ vr.ownBlock = some g) w w5 := c14.trans c5 (fun _ _ f => .inl f)
  have hz15 : ∀ g, g = wb ∨ vp.ownBlock = some g ∨ vr.ownBlock = some g → 0 < z g ∧ z g < 4 := fun g hg => by
    rcases hg with e | e | e
    · rw [e, h.zw]; omega
    · rw [h.zp g e]; omega
    · rw [h.zr g e]; omega
  have c35 : Chg (fun g => g = wb ∨ vr.ownBlock = some g) w3 w5 := (((Chg.refl (fun _ => False) w3).mono (fun _ f => f.elim)).trans ca (fun _ _ f => f.elim)).trans ((c4.mono (fun _ f => .inr f)).trans c5 (fun _ _ f => .inl f)) (fun _ _ f => f)
  have hsl : Slots wb (fun j => j = 0 ∨ j = 1) w w5 := by
    have s1 : Slots wb (fun j => j = 0 ∨ j = 1) w w2 := (Slots.of_chg _ c1 hw id).trans (Slots.of_chg (fun j => j = 0 ∨ j = 1) c2 (by omega) vpw) (fun _ h => h)
    have s2 : Slots wb (fun j => j = 0 ∨ j = 1) w w3 := by rw [hw3]; exact s1.setCell (p := ⟨wb, 0, none⟩) _ (fun _ => .inl rfl)
    have s3 : Slots wb (fun j => j = 0 ∨ j = 1) w w4 := (s2.trans (Slots.of_chg (fun j => j = 0 ∨ j = 1) ca (by omega) id) (fun _ h => h)).trans (Slots.of_chg (fun j => j = 0 ∨ j = 1) c4 (by omega) vrw) (fun _ h => h)
    rw [hw5]; exact s3.setCell (p := ⟨wb, 1, none⟩) _ (fun _ => .inr rfl)
  have hc0 : w5.cell? ⟨wb, 0, none⟩ = some vp' := by
    have e3 : w3.cell? ⟨wb, 0, none⟩ = some vp' := by
      rw [hw3]; exact World.cell?_setCell_same _ _ _ (c2.cellAt (c1.cellAt h.c0 id) vpw)
    have e4 : w4.cell? ⟨wb, 0, none⟩ = some vp' := c4.cellAt (ca.cellAt e3 id) vrw
    rw [hw5]; exact (World.cell?_setCell_other _ _ _ _ (by simp)).trans e4
  have hc1 : w5.cell? ⟨wb, 1, none⟩ = some vr' := by
    have e3 : w3.cell? ⟨wb, 1, none⟩ = some vr := by
      rw [hw3]; exact (World.cell?_setCell_other _ _ _ _ (by simp)).trans (c2.cellAt (c1.cellAt h.c1 id) vpw)
    rw [hw5]; exact World.cell?_setCell_same _ _ _ (c4.cellAt (ca.cellAt e3 id) vrw)
  have hvp' : ∀ g, vp'.ownBlock = some g → vp.ownBlock = some g ∨ w1.heap.size ≤ g ∧ g < w2.heap.size := fun g hg => by
    rcases wh2 with e | e
    · exact .inl (e ▸ hg)
    · exact .inr ⟨e g hg, (o2.lt g hg).2⟩
  have hvr' : ∀ g, vr'.ownBlock = some g → vr.ownBlock = some g ∨ wa.heap.size ≤ g := fun g hg => by
    rcases wh4 with e | e
    · exact .inl (e ▸ hg)
    · exact .inr (e g hg)
  have hrp : w5.ownsRow 0 27 1 vp' (n + 1) (ptrs (n + 1) (putAt pa n a)) := by
    rw [ptrs_more]
    refine c35.row' (c3.row' o2 (fun g hg e => vp'w (e ▸ hg))) (fun g hg e => ?_)
    rcases e with e | e
    · exact vp'w (e ▸ hg)
    · rcases hvp' g hg with e1 | e1
      · have := h.zp g e1; have := h.zr g e; omega
      · have := hvrl g e; omega
  have hrr : w5.ownsRow 0 130 1 vr' (n + 1) (ptrs (n + 1) (putAt ra n a2)) := by
    rw [ptrs_more]
    exact c5.row' o4 (fun g hg e => vr'w (e ▸ hg))
  have hrel : RelT T' w5 a (some s) F := by
    refine relT_stable hP (fun q hq => ?_)
    have h1 := relT_lt hP hq
    have h0 := hF q hq
    have e3 : w3.heap[q]? = w1.heap[q]? := (c3.block q (by omega) (by omega)).trans (c2.block q h1 (fun f => by have := hvpl q f; omega))
    exact (c35.block q (by omega) (fun f => by rcases f with f | f; · omega
                                               · have := hvrl q f; omega)).trans e3
  have href : RefRel (N + 1) w5 a2 (some s) G := by
    refine ref_stable hR (fun q hq => ?_)
    have h1 := ref_lt hR hq
    have h0 := hG q hq
    exact (c5.block q (by omega) (by omega)).trans (c4.block q h1 (fun f => by have := hvrl q f; omega))
  refine ⟨fun g => if g < w.heap.size then z g else if g < w1.heap.size then 6 + 3 * n else if g < w2.heap.size then 2 else if g < wa.heap.size then 7 + 3 * n else 3, putAt pa n a, putAt ra n a2, putAt st n (some s), putAt T n T', putAt FP n F, putAt FR n G, B, r, L, vp', vr', K, ?_⟩
  refine ⟨⟨fun j => (hsl.frozen j).trans (h.book.fz j), fun x hx => (hsl.cell (3 + x) (by omega)).trans (h.book.cell x hx), fun x hx => c15.row' (h.book.row x hx) (fun g hg e => ?_), h.book.quad, fun x hx i u hu => ⟨(h.book.inked x hx i u hu).1.chg c15 (fun g hg e => ?_), (h.book.inked x hx i u hu).2⟩, h.book.rows, h.book.list, fun g hg => ⟨(h.book.own g hg).1, Nat.lt_of_lt_of_le (h.book.own g hg).2 c15.size⟩⟩, hc0, hc1, hrp, hrr, Nat.succ_le_succ h.many, fun i hi => ?_, fun i hi => ?_, fun i hi => ?_, fun x hx => ?_, ?_, fun g hg => ?_, fun g hg => ?_, fun g hg => ?_, fun i hi g hg => ?_, fun i hi g hg => ?_, fun g hg => ?_, h.orig.trans c15 (fun g hg f => ?_), fun i hi s' hs => ?_, h.kept.chg c15 (fun g hg => ?_) ((hsl.cell 2 (by omega)).trans h.kept.cell) (Nat.le_succ _) (fun g hg => ?_)⟩
  · have := h.zB g (h.book.rows x hx g hg); have := hz15 g e; omega
  · have := h.zB g (h.book.list x hx u (List.mem_of_getElem? hu) g hg).1; have := hz15 g e; omega
  · by_cases e : i = n
    · subst e; rw [putAt_at, putAt_at, putAt_at, putAt_at]; exact hrel
    · rw [putAt_ne _ _ e, putAt_ne _ _ e, putAt_ne _ _ e, putAt_ne _ _ e]
      have hi' : i < n := by omega
      exact relT_stable (h.relP i hi') (fun q hq => c15.block q (relT_lt (h.relP i hi') hq) (fun f => by have := hz15 q f; have := h.zP i hi' q hq; omega))
  · by_cases e : i = n
    · subst e; rw [putAt_at, putAt_at, putAt_at]; exact href
    · rw [putAt_ne _ _ e, putAt_ne _ _ e, putAt_ne _ _ e]
      have hi' : i < n := by omega
      exact ref_more (ref_stable (h.relR i hi') (fun q hq => c15.block q (ref_lt (h.relR i hi') hq) (fun f => by have := hz15 q f; have := h.zR i hi' q hq; omega))) (by omega)
  · by_cases e : i = n
    · subst e; rw [putAt_at]; exact hT
    · rw [putAt_ne _ _ e]; have := h.lenT i (by omega); omega
  · have := h.lenL x hx; omega
  · simp only [hw, if_true]; exact h.zw
  · rcases hvp' g hg with e | e
    · simp only [hvpl g e, if_true]; exact h.zp g e
    · rw [if_neg (by omega), if_neg (by omega), if_pos e.2]
  · rcases hvr' g hg with e | e
    · simp only [hvrl g e, if_true]; exact h.zr g e
    · rw [if_neg (by omega), if_neg (by omega), if_neg (by omega), if_neg (by omega)]
  · simp only [(h.book.own g hg).2, if_true]; exact h.zB g hg
  · by_cases e : i = n
    · subst e
      rw [putAt_at] at hg
      have := hF g hg
      have := relT_lt hP hg
      rw [if_neg (by omega), if_pos this]
    · rw [putAt_ne _ _ e] at hg
      have hi' : i < n := by omega
      simp only [relT_lt (h.relP i hi') hg, if_true]; exact h.zP i hi' g hg
  · by_cases e : i = n
    · subst e
      rw [putAt_at] at hg
      have := hG g hg
      have := ref_lt hR hg
      rw [if_neg (by omega), if_neg (by omega), if_neg (by omega), if_pos this]
    · rw [putAt_ne _ _ e] at hg
      have hi' : i < n := by omega
      simp only [ref_lt (h.relR i hi') hg, if_true]; exact h.zR i hi' g hg
  · have := h.orig.size
    rw [if_pos (by omega)]; exact h.low g hg
  · have := h.low g hg; have := hz15 g f; omega
  · by_cases e : i = n
    · subst e; rw [putAt_at] at hs ⊢; cases hs; exact ht
    · rw [putAt_ne _ _ e] at hs ⊢; exact h.tel i (by omega) s' hs
  · have := hz15 g hg; omega
  · simp only [hg, if_true]
end
end Go.Proofs.YthedkdbgfdjlkaaGreatDoor

namespace Go.Proofs.YthedkdbgfdjlkaaGreatDoor
set_option linter.unusedVariables false
set_option linter.unusedSimpArgs false
open Go.RowKit Go.Lib
theorem more_runs {W0 w w1 : World} {wb n N : Nat} {z : Nat → Nat} {pa ra : Nat → Addr} {st : Nat → Option St} {T : Nat → List UInt8} {FP FR : Nat → Nat → Prop} {B : Nat → Prop} {r : Nat → Value} {L : Nat → List Value} {K : KD} {p1 p2 : Option Addr} {k1 k2 : Nat} (h : Wd W0 w wb n N z pa ra st T FP FR B r L (.slice p1 n k1) (.slice p2 n k2) K) (hN : N ≤ 1000000000) {a : Addr} {F : Nat → Prop} {T' : List UInt8} {s : St} (hP : RelT T' w1 a (some s) F) (hF : ∀ k, F k → w.heap.size ≤ k) (ht : Tells T' s) (hT : T'.length ≤ 512 + 32 * (N + 1)) (c1 : Chg (fun _ => False) w w1) :
    ∃ p1' k1' w2, (Builtin.append_ #[70, 70] 70 #[.slice p1 n k1, .slice (some ⟨w1.heap.size, 0, none⟩) 1 1]).run Tryz.prog (w1.alloc (Obj.cells #[.pointer (some a)] 27)) = .ok (.slice p1' (n + 1) k1') w2 ∧
      w1.cell? ⟨wb, 0, none⟩ = some (.slice p1 n k1) ∧ w2.cell? ⟨wb, 0, none⟩ = some (.slice p1 n k1) ∧ w2.frozen? ⟨wb, 0, none⟩ = false ∧ w2.cell? ⟨wb, 1, none⟩ = some (.slice p2 n k2) ∧ Chg (fun g => g = wb ∨ (Value.slice p1 n k1).ownBlock = some g) w (w2.setCell ⟨wb, 0, none⟩ (.slice p1' (n + 1) k1')) ∧
      ∀ wa a2 G, Chg (fun _ => False) (w2.setCell ⟨wb, 0, none⟩ (.slice p1' (n + 1) k1')) wa → RefRel (N + 1) wa a2 (some s) G → (∀ g, G g → w2.heap.size ≤ g) → wa.cell? ⟨wb, 1, none⟩ = some (.slice p2 n k2) ∧ ∃ p2' k2' w4,
        (Builtin.append_ #[71, 71] 71 #[.slice p2 n k2, .slice (some ⟨wa.heap.size, 0, none⟩) 1 1]).run Tryz.prog (wa.alloc (Obj.cells #[.pointer (some a2)] 130)) = .ok (.slice p2' (n + 1) k2') w4 ∧
        w4.cell? ⟨wb, 1, none⟩ = some (.slice p2 n k2) ∧ w4.frozen? ⟨wb, 1, none⟩ = false ∧ Wx W0 (w4.setCell ⟨wb, 1, none⟩ (.slice p2' (n + 1) k2')) wb (n + 1) (N + 1) := by
  obtain ⟨i1, hi1, hy0, hy1, hy2⟩ := info_parts Tryz.infoPP
  obtain ⟨i2, hi2, hx0, hx1, hx2⟩ := info_parts Tryz.infoPR
  have hn : n ≤ 1000000000 := Nat.le_trans h.many hN
  have hw := h.lt
  have vpw : (Value.slice p1 n k1).ownBlock ≠ some wb := fun e => by have := h.zp wb e; rw [h.zw] at this; omega
  have vrw : (Value.slice p2 n k2).ownBlock ≠ some wb := fun e => by have := h.zr wb e; rw [h.zw] at this; omega
  have d0 := c1.cellAt h.c0 id
  have d1 := c1.cellAt h.c1 id
  have z1 := c1.size
  obtain ⟨vq, w2, t1, o2, g2, e2⟩ := run_append_where (P := Tryz.prog) (w1.alloc (Obj.cells #[.pointer (some a)] 27)) 0 70 70 27 i1 _ 1 8 Tryz.underlying70 hi1 hy0 hy1 hy2 rfl (by decide) _ _ _ ((c1.row' h.rp (fun _ _ => id)).alloc _) ⟨w1.heap.size, 0, none⟩ 1 1 [.pointer (some a)] rfl (fun j y hj => by rw [add_lit', Nat.zero_add]; rcases j with _ | j <;> simp at hj; subst hj; exact World.cell?_alloc_at _ _ _ _ rfl) (by simp [Value.oneCell']) (by unfold maxLen; omega) (by omega) (Nat.zero_le _)
  have c2 : Chg (fun g => (Value.slice p1 n k1).ownBlock = some g) w1 w2 := ((Chg.refl (fun g => (Value.slice p1 n k1).ownBlock = some g) w1).alloc _).trans (G := fun g => (Value.slice p1 n k1).ownBlock = some g) ⟨g2.os, g2.tape, g2.output, g2.size, fun k hk hne => g2.block k hk (fun e => hne e.symm)⟩ (fun _ _ h => h)
  have wh2 : Wh w1.heap.size (.slice p1 n k1) vq := e2.imp id (fun e k hk => by have := e k hk; rw [World.size_alloc] at this; omega)
  obtain ⟨p1', k1', rfl⟩ := row_any o2
  have d20 := c2.cellAt d0 vpw
  have d21 := c2.cellAt d1 vpw
  have z2 := c2.size
  have f2 : ∀ j, w2.frozen? ⟨wb, j, none⟩ = false := fun j => ((World.frozen?_of_block (c2.block wb (by omega) vpw)).trans (World.frozen?_of_block (c1.block wb hw id))).trans (h.book.fz j)
  obtain ⟨w3, hw3⟩ : ∃ w3, w3 = w2.setCell ⟨wb, 0, none⟩ (.slice p1' (n + 1) k1') := ⟨_, rfl⟩
  have s3 : w3.heap.size = w2.heap.size := by rw [hw3]; simp [World.setCell]
  have c3 : Chg (fun q => q = wb) w2 w3 := by rw [hw3]; exact (Chg.refl (fun q => q = wb) w2).setCell (p := ⟨wb, 0, none⟩) (fun _ => rfl) _
  have d31 : w3.cell? ⟨wb, 1, none⟩ = some (.slice p2 n k2) := by rw [hw3]; exact (World.cell?_setCell_other _ _ _ _ (by simp)).trans d21
  have f31 : w3.frozen? ⟨wb, 1, none⟩ = false := by rw [hw3, World.frozen?_setCell]; exact f2 1
  have hap : ∀ g, (Value.slice p2 n k2).ownBlock = some g → ¬ (Value.slice p1 n k1).ownBlock = some g := fun g hg e => by have := h.zp g e; have := h.zr g hg; omega
  have rr3 := c3.row' (c2.row' (c1.row' h.rr (fun _ _ => id)) (fun g hg e => hap g hg e)) (fun g hg e => vrw (e ▸ hg))
  have c13 : Chg (fun g => g = wb ∨ (Value.slice p1 n k1).ownBlock = some g) w w3 := ((c1.mono (fun _ f => f.elim)).trans c2 (fun _ _ f => .inr f)).trans c3 (fun _ _ f => .inl f)
  refine ⟨p1', k1', w2, t1, d0, d20, f2 0, d21, hw3 ▸ c13, fun wa a2 G ca hR hG => ?_⟩
  rw [← hw3] at ca
  have rra := ca.row' rr3 (fun _ _ => id)
  obtain ⟨vq2, w4, t2, o4, g4, e4⟩ := run_append_where (P := Tryz.prog) (wa.alloc (Obj.cells #[.pointer (some a2)] 130)) 0 71 71 130 i2 _ 1 8 Tryz.underlying71 hi2 hx0 hx1 hx2 rfl (by decide) _ _ _ (rra.alloc _) ⟨wa.heap.size, 0, none⟩ 1 1 [.pointer (some a2)] rfl (fun j y hj => by rw [add_lit', Nat.zero_add]; rcases j with _ | j <;> simp at hj; subst hj; exact World.cell?_alloc_at _ _ _ _ rfl) (by simp [Value.oneCell']) (by unfold maxLen; omega) (by omega) (Nat.zero_le _)
  have c4 : Chg (fun g => (Value.slice p2 n k2).ownBlock = some g) wa w4 := ((Chg.refl (fun g => (Value.slice p2 n k2).ownBlock = some g) wa).alloc _).trans (G := fun g => (Value.slice p2 n k2).ownBlock = some g) ⟨g4.os, g4.tape, g4.output, g4.size, fun k hk hne => g4.block k hk (fun e => hne e.symm)⟩ (fun _ _ h => h)
  have wh4 : Wh wa.heap.size (.slice p2 n k2) vq2 := e4.imp id (fun e k hk => by have := e k hk; rw [World.size_alloc] at this; omega)
  obtain ⟨p2', k2', rfl⟩ := row_any o4
  have za := ca.size
  have da1 := ca.cellAt d31 id
  have d41 := c4.cellAt da1 vrw
  have f41 : w4.frozen? ⟨wb, 1, none⟩ = false := ((World.frozen?_of_block (c4.block wb (by omega) vrw)).trans (World.frozen?_of_block (ca.block wb (by omega) id))).trans f31
  exact ⟨da1, p2', k2', w4, t2, d41, f41, h.more hP hF ht hT c1 o2 c2 wh2 hw3 ca hR hG o4 c4 wh4 rfl⟩
theorem begin_runs {W0 w w1 : World} {wb n N : Nat} {z : Nat → Nat} {pa ra : Nat → Addr} {st : Nat → Option St} {T : Nat → List UInt8} {FP FR : Nat → Nat → Prop} {B : Nat → Prop} {r : Nat → Value} {L : Nat → List Value} {K : KD} {p1 p2 : Option Addr} {k1 k2 : Nat} (h : Wd W0 w wb n N z pa ra st T FP FR B r L (.slice p1 n k1) (.slice p2 n k2) K) (hN : N ≤ 1000000000) {a : Addr} {F : Nat → Prop} (hP : RelT (encHead St.init) w1 a (some St.init) F) (hF : ∀ k, F k → w.heap.size ≤ k) (c1 : Chg (fun _ => False) w w1) :
    ∃ p1' k1' w2 p2' k2' w4, (Builtin.append_ #[70, 70] 70 #[.slice p1 n k1, .slice (some ⟨w1.heap.size, 0, none⟩) 1 1]).run Tryz.prog (w1.alloc (Obj.cells #[.pointer (some a)] 27)) = .ok (.slice p1' (n + 1) k1') w2 ∧
      w1.cell? ⟨wb, 0, none⟩ = some (.slice p1 n k1) ∧ w2.cell? ⟨wb, 0, none⟩ = some (.slice p1 n k1) ∧ w2.frozen? ⟨wb, 0, none⟩ = false ∧ w2.cell? ⟨wb, 1, none⟩ = some (.slice p2 n k2) ∧
      (Builtin.append_ #[71, 71] 71 #[.slice p2 n k2, .slice (some ⟨w2.heap.size + 1, 0, none⟩) 1 1]).run Tryz.prog (((w2.setCell ⟨wb, 0, none⟩ (.slice p1' (n + 1) k1')).alloc (Obj.cells blank15 137)).alloc (Obj.cells #[.pointer (some ⟨w2.heap.size, 0, none⟩)] 130)) = .ok (.slice p2' (n + 1) k2') w4 ∧
      w4.cell? ⟨wb, 1, none⟩ = some (.slice p2 n k2) ∧ w4.frozen? ⟨wb, 1, none⟩ = false ∧ Wx W0 (w4.setCell ⟨wb, 1, none⟩ (.slice p2' (n + 1) k2')) wb (n + 1) (N + 1) := by
  obtain ⟨p1', k1', w2, t1, d0, d20, f20, d21, _, hs⟩ := more_runs h hN hP hF (Tells.head St.init (relT_tidy hP)) (by have := init_short; omega) c1
  obtain ⟨w3, hw3⟩ : ∃ w3, w3 = w2.setCell ⟨wb, 0, none⟩ (.slice p1' (n + 1) k1') := ⟨_, rfl⟩
  have s3 : w3.heap.size = w2.heap.size := by rw [hw3]; simp [World.setCell]
  have hb : RefRel (N + 1) (w3.alloc (Obj.cells blank15 137)) ⟨w3.heap.size, 0, none⟩ (some St.init) (fun k => k = w3.heap.size) := ref_more (ref_blank (blank_new w3)) (by omega)
  obtain ⟨_, p2', k2', w4, t2, d41, f41, hfin⟩ := hs (w3.alloc (Obj.cells blank15 137)) ⟨w3.heap.size, 0, none⟩ _ (hw3 ▸ (Chg.refl _ w3).alloc _) hb (fun g hg => by omega)
  rw [World.size_alloc, s3, hw3] at t2
  exact ⟨p1', k1', w2, p2', k2', w4, t1, d0, d20, f20, d21, t2, d41, f41, hfin⟩
set_option maxRecDepth 100000 in
set_option maxHeartbeats 4000000 in
theorem begins_any {W0 w : World} {wb n N : Nat} (hx : Wx W0 w wb n N) (hN : N ≤ 1000000000) :
    Calls Tryz.prog 25 #[.pointer (some ⟨wb, 0, none⟩)] w fun e w' => e = .returned (.bool true) ∧ Wx W0 w' wb (n + 1) (N + 1) := by
  obtain ⟨z, pa, ra, st, T, FP, FR, B, r, L, vp, vr, K, h⟩ := hx
  obtain ⟨p1, k1, rfl⟩ := row_any h.rp
  obtain ⟨p2, k2, rfl⟩ := row_any h.rr
  have hnew := relT_new w
  go_enter Tryz.func25, Tryz.ntmps25
  go_wp2_with (first | (go_at_call 11; refine hnew.mono ?_; rintro _ w1 ⟨a, F, rfl, hP, hF, c1⟩; obtain ⟨p1', k1', w2, p2', k2', w4, t1, d0, d20, f20, d21, t2, d41, f41, hfin⟩ := begin_runs h hN hP hF c1) | (at_builtin; refine Lib.wpList_append_run _ rfl (.tmp 11) (.tmp 13) 70 70 rfl _ _ rfl rfl (.slice p1' (n + 1) k1') w2 t1 ?_) | (at_builtin; refine Lib.wpList_append_run _ rfl (.tmp 21) (.tmp 24) 71 71 rfl _ _ rfl rfl (.slice p2' (n + 1) k2') w4 t2 ?_))
  go_ret
  exact ⟨rfl, hfin⟩
end Go.Proofs.YthedkdbgfdjlkaaGreatDoor

namespace Go.Proofs.YthedkdbgfdjlkaaGreatDoor
set_option linter.unusedVariables false
set_option linter.unusedSimpArgs false
open Go.RowKit Go.Lib
theorem Tryz.infoMS : (Tryz.prog.info? 121).map (fun i => (i.zero, i.size, i.bytes)) = some (some (.agg #[.int .i64 0, .int .i64 0, .slice none 0 0]), 3, 40) := by kernel_rfl
theorem Tryz.infoLS : (Tryz.prog.info? 43).map (fun i => (i.zero, i.size, i.bytes)) = some (some (.slice none 0 0), 1, 24) := by kernel_rfl
theorem Tryz.infoMK : (Tryz.prog.info? 87).map (fun i => (i.zero, i.size, i.bytes)) = some (some (.agg #[.string { data := #[] }, .int .i64 0, .int .i64 0, .int .i64 0]), 4, 40) := by kernel_rfl
theorem Tryz.infoLK : (Tryz.prog.info? 44).map (fun i => (i.zero, i.size, i.bytes)) = some (some (.slice none 0 0), 1, 24) := by kernel_rfl
def MSx (w : World) (lo mb o : Nat) (B : Nat → Prop) (L : Nat → List Value) (vs vk : Value) (s : St) (us : List Value) (k : Nat) (wr : World) : Prop := ∃ B' r' L', MS w lo mb o B L vs vk s us k wr B' r' L'
set_option maxRecDepth 100000 in
set_option maxHeartbeats 8000000 in
theorem mstate_any {w : World} {lo mb o : Nat} {B : Nat → Prop} {r : Nat → Value} {L : Nat → List Value} {vs vk : Value} {s : St} {us : List Value} (hB : Book w mb o B r L) (hs : StateOf w lo vs vk s us) (hBl : ∀ g, B g → g < lo) (hml : mb < lo) (hlo : lo ≤ w.heap.size) (hl4 : s.lanes.length ≤ 4) (hk4 : s.keys.length ≤ 4) (hw : ∀ l ∈ s.lanes, l.ws.length ≤ 900) (hn : ∀ x, x < 4 → (L x).length ≤ 900000000) :
    Calls Tryz.prog 50 #[.pointer (some ⟨mb, o, none⟩), .agg #[vs, vk]] w fun e w' => e = .returned (.tuple #[]) ∧ Inks w lo mb o B L w' := by
  obtain ⟨i1, hi1, hy0, hy1, hy2⟩ := info_parts Tryz.infoMS
  obtain ⟨i2, hi2, hx0, hx1, hx2⟩ := info_parts Tryz.infoLS
  obtain ⟨j1, hj1, hz0, hz1, hz2⟩ := info_parts Tryz.infoMK
  obtain ⟨j2, hj2, ht0, ht1, ht2⟩ := info_parts Tryz.infoLK
  obtain ⟨ps, cs, rfl⟩ := row_any hs.sess
  obtain ⟨pk, ck, rfl⟩ := row_any hs.keys
  have hstart := MS.start hB hs hBl hlo
  go_enter Tryz.func50, Tryz.ntmps50
  go_wp2_with fail
  go_loopw [4] (fun si wr => ∃ (k : Nat), si = .int .i64 k ∧ k ≤ s.lanes.length ∧ MSx w lo mb o B L (.slice ps s.lanes.length cs) (.slice pk s.keys.length ck) s us k wr) (fun si _ => s.lanes.length - (intOf si).toNat)
  case atStart => exact ⟨0, rfl, by omega, B, r, L, hstart⟩
  case round =>
    clear hstart
    obtain ⟨k, rfl, hk, B1, r1, L1, h⟩ := hrel
    have a0 := h.c0
    have a1 := h.c1
    by_cases hkn : k < s.lanes.length
    · have hkn' : (k : Int) < (s.lanes.length : Int) := by omega
      obtain ⟨l, hl⟩ : ∃ l, s.lanes[k]? = some l := ⟨_, List.getElem?_eq_getElem hkn⟩
      obtain ⟨v, hv⟩ : ∃ v, us[k]? = some v := ⟨_, List.getElem?_eq_getElem (by rw [hs.len]; exact hkn)⟩
      obtain ⟨g, cap', hvs, _, _, hcell⟩ := row_pos h.sess (by omega)
      simp only [Value.slice.injEq] at hvs
      obtain ⟨rfl, _, rfl⟩ := hvs
      have m2 := hcell _ _ (sessCells_at _ _ _ _ _ hl hv).2.2
      have hwl : l.ws.length ≤ 900 := hw l (List.mem_of_getElem? hl)
      have hln0 : (L1 0).length ≤ 900000016 := by have := h.len0; have := hn 0 (by omega); omega
      have hrow := h.wait k l v (Nat.le_refl _) hl hv
      have hcall := mints_any (h.book.cell 0 (by omega)) h.book.fz (h.book.row 0 (by omega)) (row_lower hrow (Nat.zero_le _)) (by omega) (by omega) (fun e => (h.book.own mb (h.book.rows 0 (by omega) mb e)).1 rfl) (fun e => by have := (hrow.lt mb e).1; omega) (Nat.zero_le _)
      simp only [Nat.add_zero] at hcall
      clear hcell
      obtain ⟨pu, cu, rfl⟩ := row_any hrow
      go_wp2_with (go_at_call 88; refine hcall.mono ?_; rintro _ w2 ⟨vI', v1, v2, v3, rfl, q1, q2, q3, q4, q5, q6⟩)
      have hnext := h.step hs hlo hBl hml hl hv hwl q1 q2 q3 q4 q5 q6
      exact ⟨⟨k + 1, by go_num, by omega, hnext⟩, by simp [intOf]; omega⟩
    · have hkn' : ¬ (k : Int) < (s.lanes.length : Int) := by omega
      obtain rfl : k = s.lanes.length := by omega
      have hb1 := h.book.cell 1 (by omega)
      obtain ⟨p1, k1, hr1⟩ := row_any (h.book.row 1 (by omega))
      rw [hr1] at hb1
      obtain ⟨X, hX⟩ : ∃ X : Int, X = 1000000 + (((L1 1).length / 4 : Nat) : Int) := ⟨_, rfl⟩
      have hln1 : (L1 1).length ≤ 900000000 := by have := h.len 1 (by omega) (by omega); have := hn 1 (by omega); omega
      have hXr : 0 ≤ X ∧ X ≤ 2000000000 := by omega
      have hq : (1000000 : Int) + ((L1 1).length : Int) / 4 = X := by rw [hX]; omega
      have HX : Hid (X = 1000000 + (((L1 1).length / 4 : Nat) : Int)) := hX
      clear hX
      obtain ⟨W0, hW0⟩ : ∃ W0, W0 = wr.alloc (Obj.cells #[.int .i64 0, .int .i64 X, .slice none 0 0] 121) := ⟨_, rfl⟩
      have c0 : Chg (fun _ => False) wr W0 := by rw [hW0]; exact (Chg.refl _ wr).alloc _
      have z0 : W0.cell? ⟨wr.heap.size, 0, none⟩ = some (.int .i64 0) := by rw [hW0]; exact World.cell?_alloc_at _ _ _ _ rfl
      have z1 : W0.cell? ⟨wr.heap.size, 1, none⟩ = some (.int .i64 X) := by rw [hW0]; exact World.cell?_alloc_at _ _ _ _ rfl
      have z2 : W0.cell? ⟨wr.heap.size, 2, none⟩ = some (.slice none 0 0) := by rw [hW0]; exact World.cell?_alloc_at _ _ _ _ rfl
      have hz0' : wr.heap.size < W0.heap.size := World.block_lt_of_cell? _ _ z0
      have hvw : ∀ g, (Value.slice ps s.lanes.length cs).ownBlock = some g → g < wr.heap.size := fun g hg => (h.sess.lt g hg).2
      have hvs0 : ∀ g, (Value.slice ps s.lanes.length cs).ownBlock = some g → g ≠ w.heap.size := fun g hg => by have := (hs.sess.lt g hg).2; omega
      obtain ⟨wo, rfl⟩ : ∃ wo : World, wo = wr := ⟨_, rfl⟩
      go_wp2_with fail
      rw [← hW0]
      clear hW0 hq
      have e0 := c0.cellAt a0 id
      go_loopw [6] (fun si wq => ∃ (k : Nat), si = .int .i64 k ∧ k ≤ s.lanes.length ∧ wq.ownsRow lo 121 3 (.slice ps s.lanes.length cs) s.lanes.length (reps [.int .i64 0, .int .i64 X, .slice none 0 0] k ++ (sessCells s.lanes us).drop (k * 3)) ∧ Chg (fun q => (Value.slice ps s.lanes.length cs).ownBlock = some q) W0 wq) (fun si _ => s.lanes.length - (intOf si).toNat)
      case atStart => exact ⟨0, rfl, by omega, by simpa [reps] using c0.row' h.sess (fun _ _ h => h), Chg.refl _ _⟩
      case round =>
        obtain ⟨k, rfl, hk2, hrow, hcw⟩ := hrel
        have d0 := hcw.cellAt e0 (fun e => hvs0 _ e rfl)
        have y0 := hcw.cellAt z0 (fun e => by have := hvw _ e; omega)
        have y1 := hcw.cellAt z1 (fun e => by have := hvw _ e; omega)
        have y2 := hcw.cellAt z2 (fun e => by have := hvw _ e; omega)
        by_cases hkn : k < s.lanes.length
        · have hkn2 : (k : Int) < (s.lanes.length : Int) := by omega
          obtain ⟨g, cap', hvs, _, _, _⟩ := row_pos hrow (by omega)
          simp only [Value.slice.injEq] at hvs
          obtain ⟨rfl, _, rfl⟩ := hvs
          have hne : ¬ g = wo.heap.size := by have := hvw g rfl; omega
          have hne' : ¬ wo.heap.size = g := fun e => hne e.symm
          have hne2 : ¬ g = w.heap.size := hvs0 g rfl
          obtain ⟨⟨u0, m0⟩, ⟨u1, m1⟩, ⟨u2, m2⟩, hst⟩ := fill3 hrow hkn
          have f0 := row_frozen hrow (k * 3)
          have f1 := row_frozen hrow (k * 3 + 1)
          have f2 := row_frozen hrow (k * 3 + 2)
          have HST : Hid ((((wr.setCell ⟨g, k * 3, none⟩ (.int .i64 0)).setCell ⟨g, k * 3 + 1, none⟩ (.int .i64 X)).setCell ⟨g, k * 3 + 2, none⟩ (.slice none 0 0)).ownsRow lo 121 3 (.slice (some ⟨g, 0, none⟩) s.lanes.length cs) s.lanes.length (reps [.int .i64 0, .int .i64 X, .slice none 0 0] (k + 1) ++ (sessCells s.lanes us).drop ((k + 1) * 3))) := hst
          have cS : Chg (fun q => q = g) wr (((wr.setCell ⟨g, k * 3, none⟩ (.int .i64 0)).setCell ⟨g, k * 3 + 1, none⟩ (.int .i64 X)).setCell ⟨g, k * 3 + 2, none⟩ (.slice none 0 0)) := (((Chg.refl (fun q => q = g) wr).setCell (p := ⟨g, k * 3, none⟩) (fun _ => rfl) _).setCell (p := ⟨g, k * 3 + 1, none⟩) (fun _ => rfl) _).setCell (p := ⟨g, k * 3 + 2, none⟩) (fun _ => rfl) _
          clear hst
          go_wp2_with fail
          exact ⟨⟨k + 1, by go_num, by omega, HST.out, hcw.trans cS (fun q _ h => by rw [h]; rfl)⟩, by simp [intOf]; omega⟩
        · have hkn2 : ¬ (k : Int) < (s.lanes.length : Int) := by omega
          obtain rfl : k = s.lanes.length := by omega
          rw [List.drop_of_length_le (by rw [h.sess.1]; omega), List.append_nil] at hrow
          have hb0 := h.book.chg c0 (fun _ f => f.elim)
          have hvB : ∀ g, (Value.slice ps s.lanes.length cs).ownBlock = some g → ¬ B1 g ∧ g ≠ mb ∧ g < W0.heap.size := fun g hg => ⟨fun e => (h.old g e).2 (.inr (.inl hg)), by have := (hs.sess.lt g hg).1; omega, by have := hvw g hg; omega⟩
          obtain ⟨v1, w1, v2, w2, v3, w3, vF, wF, t1, t2, t3, tF, ⟨q1, x1, q2, x2, q3, x3, qF, xF, rfl, rfl, rfl, rfl⟩, d1, d2, d3, cF, eF, fF, hbook, hcc, hsl⟩ := book_marks (P := Tryz.prog) (lo := lo) hb0 (x := 1) (by omega) 43 74 121 i1 i2 _ 40 [.int .i64 0, .int .i64 X, .slice none 0 0] X Tryz.underlying43 hi1 hy0 hy1 hy2 rfl (by simp) rfl (by simp [Value.oneCell']) (by omega) rfl Tryz.underlying74 hi2 hx0 hx1 hx2 HX.out (.slice ps s.lanes.length cs) s.lanes.length (by omega) hvB hcw hrow (by have := h.chg.size; omega) (by omega)
          rw [hr1] at tF eF hcc
          have s1 := d1.cellAt e0 (fun e => hvs0 _ e rfl)
          have s2 := d2.cellAt e0 (fun e => hvs0 _ e rfl)
          have s3 := d3.cellAt e0 (fun e => hvs0 _ e rfl)
          have s3d : w3.drew.cell? ⟨w.heap.size, 0, none⟩ = some (.slice ps s.lanes.length cs) := s3
          have b3 := d3.cellAt (c0.cellAt hb1 id) (fun e => (hvB _ e).2.1 rfl)
          have b3d : w3.drew.cell? ⟨mb, o + 1, none⟩ = some (.slice p1 (L1 1).length k1) := b3
          have b3a : (w3.alloc (.cells #[.slice ps s.lanes.length cs, .slice q1 (s.lanes.length + 1) x1, .slice q2 (s.lanes.length + 2) x2, .slice q3 (s.lanes.length + 3) x3] 43)).cell? ⟨mb, o + 1, none⟩ = some (.slice p1 (L1 1).length k1) := ((Chg.refl (fun _ => False) w3).alloc _).cellAt b3 id
          have l10 := d1.cellAt z0 (fun e => by have := hvw _ e; omega)
          have l11 := d1.cellAt z1 (fun e => by have := hvw _ e; omega)
          have l12 := d1.cellAt z2 (fun e => by have := hvw _ e; omega)
          have l20 := d2.cellAt z0 (fun e => by have := hvw _ e; omega)
          have l21 := d2.cellAt z1 (fun e => by have := hvw _ e; omega)
          have l22 := d2.cellAt z2 (fun e => by have := hvw _ e; omega)
          replace t1 : (Builtin.append_ #[43, 43] 43 #[.slice ps s.lanes.length cs, .slice (some ⟨wr.heap.size, 0, none⟩) 1 1]).run Tryz.prog (wr.alloc (.cells #[.int .i64 0, .int .i64 X, .slice none 0 0] 121)) = .ok (.slice q1 (s.lanes.length + 1) x1) w1 := t1
          replace t2 : (Builtin.append_ #[43, 43] 43 #[.slice ps s.lanes.length cs, .slice (some ⟨w1.heap.size, 0, none⟩) 2 2]).run Tryz.prog (w1.alloc (.cells #[.int .i64 0, .int .i64 X, .slice none 0 0, .int .i64 0, .int .i64 X, .slice none 0 0] 121)) = .ok (.slice q2 (s.lanes.length + 2) x2) w2 := t2
          replace t3 : (Builtin.append_ #[43, 43] 43 #[.slice ps s.lanes.length cs, .slice (some ⟨w2.heap.size, 0, none⟩) 3 3]).run Tryz.prog (w2.alloc (.cells #[.int .i64 0, .int .i64 X, .slice none 0 0, .int .i64 0, .int .i64 X, .slice none 0 0, .int .i64 0, .int .i64 X, .slice none 0 0] 121)) = .ok (.slice q3 (s.lanes.length + 3) x3) w3 := t3
          replace tF : (Builtin.append_ #[74, 74] 74 #[.slice p1 (L1 1).length k1, .slice (some ⟨w3.heap.size, 0, none⟩) 4 4]).run Tryz.prog (w3.alloc (.cells #[.slice ps s.lanes.length cs, .slice q1 (s.lanes.length + 1) x1, .slice q2 (s.lanes.length + 2) x2, .slice q3 (s.lanes.length + 3) x3] 43)).drew = .ok (.slice qF ((L1 1).length + 4) xF) wF := tF
          have hMT : Hid (∃ B2 r2 L2, MT w lo mb o B L (.slice pk s.keys.length ck) s (wF.setCell ⟨mb, o + 1, none⟩ (.slice qF ((L1 1).length + 4) xF)) B2 r2 L2) := h.sess' hs hlo hml hl4 c0 hbook (by rw [hr1]; exact hcc) hsl
          clear hbook hcc hsl hb0 hrow hvB d1 d2 d3 cF h
          go_wp2_with (first | (at_builtin; refine Lib.wpList_append_run _ rfl (.tmp 51) (.tmp 53) 43 43 rfl _ _ rfl rfl (.slice q1 (s.lanes.length + 1) x1) w1 t1 ?_) | (at_builtin; refine Lib.wpList_append_run _ rfl (.tmp 56) (.tmp 59) 43 43 rfl _ _ rfl rfl (.slice q2 (s.lanes.length + 2) x2) w2 t2 ?_) | (at_builtin; refine Lib.wpList_append_run _ rfl (.tmp 62) (.tmp 66) 43 43 rfl _ _ rfl rfl (.slice q3 (s.lanes.length + 3) x3) w3 t3 ?_))
          go_region_law (refine step_run rfl (.tmp 72) (.tmp 78) 74 74 rfl _ _ (by simp [Act.eval, Act.put]) (by simp [Act.eval, Act.put]) _ _ tF ?_)
          all_goals
            obtain ⟨WA, hWA⟩ : ∃ WA, WA = wF.setCell ⟨mb, o + 1, none⟩ (.slice qF ((L1 1).length + 4) xF) := ⟨_, rfl⟩
            rw [← hWA]
            rw [← hWA] at hMT
            clear hWA t1 t2 t3 tF s1 s2 s3 s3d b3 b3d b3a l10 l11 l12 l20 l21 l22 eF fF d0 y0 y1 y2 e0 z0 z1 z2 a0 a1 hb1
            obtain ⟨B2, r2, L2, h⟩ := hMT.out
            clear hMT
            have a1 := h.c1
            have hb2 := h.book.cell 2 (by omega)
            obtain ⟨p2, k2, hr2⟩ := row_any (h.book.row 2 (by omega))
            rw [hr2] at hb2
            obtain ⟨Y, hY⟩ : ∃ Y : Int, Y = 1000000 + (((L2 2).length / 4 : Nat) : Int) := ⟨_, rfl⟩
            have hln2 : (L2 2).length ≤ 900000000 := by have := h.len2; have := hn 2 (by omega); omega
            have hYr : 0 ≤ Y ∧ Y ≤ 2000000000 := by omega
            have hq2 : (1000000 : Int) + ((L2 2).length : Int) / 4 = Y := by rw [hY]; omega
            have HY : Hid (Y = 1000000 + (((L2 2).length / 4 : Nat) : Int)) := hY
            clear hY
            obtain ⟨V0, hV0⟩ : ∃ V0, V0 = WA.alloc (Obj.cells #[.string { data := #[] }, .int .i64 Y, .int .i64 0, .int .i64 0] 87) := ⟨_, rfl⟩
            have g0 : Chg (fun _ => False) WA V0 := by rw [hV0]; exact (Chg.refl _ WA).alloc _
            have n0 : V0.cell? ⟨WA.heap.size, 0, none⟩ = some (.string { data := #[] }) := by rw [hV0]; exact World.cell?_alloc_at _ _ _ _ rfl
            have n1 : V0.cell? ⟨WA.heap.size, 1, none⟩ = some (.int .i64 Y) := by rw [hV0]; exact World.cell?_alloc_at _ _ _ _ rfl
            have n2 : V0.cell? ⟨WA.heap.size, 2, none⟩ = some (.int .i64 0) := by rw [hV0]; exact World.cell?_alloc_at _ _ _ _ rfl
            have n3 : V0.cell? ⟨WA.heap.size, 3, none⟩ = some (.int .i64 0) := by rw [hV0]; exact World.cell?_alloc_at _ _ _ _ rfl
            have hgz : WA.heap.size < V0.heap.size := World.block_lt_of_cell? _ _ n0
            have hkw : ∀ g, (Value.slice pk s.keys.length ck).ownBlock = some g → g < WA.heap.size := fun g hg => (h.keys.lt g hg).2
            have hks0 : ∀ g, (Value.slice pk s.keys.length ck).ownBlock = some g → g ≠ w.heap.size := fun g hg => by have := (hs.keys.lt g hg).2; omega
            go_wp2_with fail
            rw [← hV0]
            clear hV0 hq2
            have e1 := g0.cellAt a1 id
            go_loopw [11] (fun si wq => ∃ (k : Nat), si = .int .i64 k ∧ k ≤ s.keys.length ∧ wq.ownsRow lo 87 4 (.slice pk s.keys.length ck) s.keys.length (reps [.string { data := #[] }, .int .i64 Y, .int .i64 0, .int .i64 0] k ++ (keyCells s.keys).drop (k * 4)) ∧ Chg (fun q => (Value.slice pk s.keys.length ck).ownBlock = some q) V0 wq) (fun si _ => s.keys.length - (intOf si).toNat)
            case atStart => exact ⟨0, rfl, by omega, by simpa [reps] using g0.row' h.keys (fun _ _ h => h), Chg.refl _ _⟩
            case round =>
              obtain ⟨wp, rfl⟩ : ∃ wp : World, wp = wr := ⟨_, rfl⟩
              obtain ⟨k, rfl, hk3, hrow, hcw2⟩ := hrel
              have d1 := hcw2.cellAt e1 (fun e => hks0 _ e rfl)
              have y0 := hcw2.cellAt n0 (fun e => by have := hkw _ e; omega)
              have y1 := hcw2.cellAt n1 (fun e => by have := hkw _ e; omega)
              have y2 := hcw2.cellAt n2 (fun e => by have := hkw _ e; omega)
              have y3 := hcw2.cellAt n3 (fun e => by have := hkw _ e; omega)
              by_cases hkn : k < s.keys.length
              · have hkn3 : (k : Int) < (s.keys.length : Int) := by omega
                obtain ⟨g, cap', hvs, _, _, _⟩ := row_pos hrow (by omega)
                simp only [Value.slice.injEq] at hvs
                obtain ⟨rfl, _, rfl⟩ := hvs
                have hne : ¬ g = WA.heap.size := by have := hkw g rfl; omega
                have hne' : ¬ WA.heap.size = g := fun e => hne e.symm
                have hne2 : ¬ g = w.heap.size := hks0 g rfl
                obtain ⟨⟨u0, m0⟩, ⟨u1, m1⟩, ⟨u2, m2⟩, ⟨u3, m3⟩, hst⟩ := fill4 hrow hkn
                have f0 := row_frozen hrow (k * 4)
                have f1 := row_frozen hrow (k * 4 + 1)
                have f2 := row_frozen hrow (k * 4 + 2)
                have f3 := row_frozen hrow (k * 4 + 3)
                have HST : Hid (((((wp.setCell ⟨g, k * 4, none⟩ (.string { data := #[] })).setCell ⟨g, k * 4 + 1, none⟩ (.int .i64 Y)).setCell ⟨g, k * 4 + 2, none⟩ (.int .i64 0)).setCell ⟨g, k * 4 + 3, none⟩ (.int .i64 0)).ownsRow lo 87 4 (.slice (some ⟨g, 0, none⟩) s.keys.length ck) s.keys.length (reps [.string { data := #[] }, .int .i64 Y, .int .i64 0, .int .i64 0] (k + 1) ++ (keyCells s.keys).drop ((k + 1) * 4))) := hst
                have cS : Chg (fun q => q = g) wp ((((wp.setCell ⟨g, k * 4, none⟩ (.string { data := #[] })).setCell ⟨g, k * 4 + 1, none⟩ (.int .i64 Y)).setCell ⟨g, k * 4 + 2, none⟩ (.int .i64 0)).setCell ⟨g, k * 4 + 3, none⟩ (.int .i64 0)) := ((((Chg.refl (fun q => q = g) wp).setCell (p := ⟨g, k * 4, none⟩) (fun _ => rfl) _).setCell (p := ⟨g, k * 4 + 1, none⟩) (fun _ => rfl) _).setCell (p := ⟨g, k * 4 + 2, none⟩) (fun _ => rfl) _).setCell (p := ⟨g, k * 4 + 3, none⟩) (fun _ => rfl) _
                clear hst
                go_wp2_with fail
                exact ⟨⟨k + 1, by go_num, by omega, HST.out, hcw2.trans cS (fun q _ h => by rw [h]; rfl)⟩, by simp [intOf]; omega⟩
              · have hkn3 : ¬ (k : Int) < (s.keys.length : Int) := by omega
                obtain rfl : k = s.keys.length := by omega
                rw [List.drop_of_length_le (by rw [h.keys.1]; omega), List.append_nil] at hrow
                have hb0 := h.book.chg g0 (fun _ f => f.elim)
                have hvB : ∀ g, (Value.slice pk s.keys.length ck).ownBlock = some g → ¬ B2 g ∧ g ≠ mb ∧ g < V0.heap.size := fun g hg => ⟨fun e => (h.old g e).2.2 hg, by have := (hs.keys.lt g hg).1; omega, by have := hkw g hg; omega⟩
                obtain ⟨v1, w1, v2, w2, v3, w3, vF, wF, t1, t2, t3, tF, ⟨q1, x1, q2, x2, q3, x3, qF, xF, rfl, rfl, rfl, rfl⟩, d1, d2, d3, cF, eF, fF, hbook, hcc, hsl⟩ := book_marks (P := Tryz.prog) (lo := lo) hb0 (x := 2) (by omega) 44 75 87 j1 j2 _ 40 [.string { data := #[] }, .int .i64 Y, .int .i64 0, .int .i64 0] Y Tryz.underlying44 hj1 hz0 hz1 hz2 rfl (by simp) rfl (by simp [Value.oneCell']) (by omega) rfl Tryz.underlying75 hj2 ht0 ht1 ht2 HY.out (.slice pk s.keys.length ck) s.keys.length (by omega) hvB hcw2 hrow (by have := h.chg.size; omega) (by omega)
                rw [hr2] at tF eF hcc
                have s1 := d1.cellAt e1 (fun e => hks0 _ e rfl)
                have s2 := d2.cellAt e1 (fun e => hks0 _ e rfl)
                have s3 := d3.cellAt e1 (fun e => hks0 _ e rfl)
                have b3 := d3.cellAt (g0.cellAt hb2 id) (fun e => (hvB _ e).2.1 rfl)
                have b3a : (w3.alloc (.cells #[.slice pk s.keys.length ck, .slice q1 (s.keys.length + 1) x1, .slice q2 (s.keys.length + 2) x2, .slice q3 (s.keys.length + 3) x3] 44)).cell? ⟨mb, o + 2, none⟩ = some (.slice p2 (L2 2).length k2) := ((Chg.refl (fun _ => False) w3).alloc _).cellAt b3 id
                have l10 := d1.cellAt n0 (fun e => by have := hkw _ e; omega)
                have l11 := d1.cellAt n1 (fun e => by have := hkw _ e; omega)
                have l12 := d1.cellAt n2 (fun e => by have := hkw _ e; omega)
                have l13 := d1.cellAt n3 (fun e => by have := hkw _ e; omega)
                have l20 := d2.cellAt n0 (fun e => by have := hkw _ e; omega)
                have l21 := d2.cellAt n1 (fun e => by have := hkw _ e; omega)
                have l22 := d2.cellAt n2 (fun e => by have := hkw _ e; omega)
                have l23 := d2.cellAt n3 (fun e => by have := hkw _ e; omega)
                replace t1 : (Builtin.append_ #[44, 44] 44 #[.slice pk s.keys.length ck, .slice (some ⟨wp.heap.size, 0, none⟩) 1 1]).run Tryz.prog (wp.alloc (.cells #[.string { data := #[] }, .int .i64 Y, .int .i64 0, .int .i64 0] 87)) = .ok (.slice q1 (s.keys.length + 1) x1) w1 := t1
                replace t2 : (Builtin.append_ #[44, 44] 44 #[.slice pk s.keys.length ck, .slice (some ⟨w1.heap.size, 0, none⟩) 2 2]).run Tryz.prog (w1.alloc (.cells #[.string { data := #[] }, .int .i64 Y, .int .i64 0, .int .i64 0, .string { data := #[] }, .int .i64 Y, .int .i64 0, .int .i64 0] 87)) = .ok (.slice q2 (s.keys.length + 2) x2) w2 := t2
                replace t3 : (Builtin.append_ #[44, 44] 44 #[.slice pk s.keys.length ck, .slice (some ⟨w2.heap.size, 0, none⟩) 3 3]).run Tryz.prog (w2.alloc (.cells #[.string { data := #[] }, .int .i64 Y, .int .i64 0, .int .i64 0, .string { data := #[] }, .int .i64 Y, .int .i64 0, .int .i64 0, .string { data := #[] }, .int .i64 Y, .int .i64 0, .int .i64 0] 87)) = .ok (.slice q3 (s.keys.length + 3) x3) w3 := t3
                replace tF : (Builtin.append_ #[75, 75] 75 #[.slice p2 (L2 2).length k2, .slice (some ⟨w3.heap.size, 0, none⟩) 4 4]).run Tryz.prog (w3.alloc (.cells #[.slice pk s.keys.length ck, .slice q1 (s.keys.length + 1) x1, .slice q2 (s.keys.length + 2) x2, .slice q3 (s.keys.length + 3) x3] 44)).drew = .ok (.slice qF ((L2 2).length + 4) xF) wF := tF
                have hfin : Inks w lo mb o B L (wF.setCell ⟨mb, o + 2, none⟩ (.slice qF ((L2 2).length + 4) xF)) := h.fin hs.keys hlo g0 hbook (by rw [hr2]; exact hcc) hsl
                clear hbook hcc hsl hb0 hrow hvB d1 d2 d3 cF h
                go_wp2_with (first | (at_builtin; refine Lib.wpList_append_run _ rfl (.tmp 103) (.tmp 105) 44 44 rfl _ _ rfl rfl (.slice q1 (s.keys.length + 1) x1) w1 t1 ?_) | (at_builtin; refine Lib.wpList_append_run _ rfl (.tmp 108) (.tmp 111) 44 44 rfl _ _ rfl rfl (.slice q2 (s.keys.length + 2) x2) w2 t2 ?_) | (at_builtin; refine Lib.wpList_append_run _ rfl (.tmp 114) (.tmp 118) 44 44 rfl _ _ rfl rfl (.slice q3 (s.keys.length + 3) x3) w3 t3 ?_))
                go_region_law (refine step_run rfl (.tmp 124) (.tmp 130) 75 75 rfl _ _ (by simp [Act.eval, Act.put]) (by simp [Act.eval, Act.put]) _ _ tF ?_)
                all_goals
                  go_end0
                  exact ⟨rfl, hfin⟩
end Go.Proofs.YthedkdbgfdjlkaaGreatDoor

namespace Go.Proofs.YthedkdbgfdjlkaaGreatDoor
set_option linter.unusedVariables false
set_option linter.unusedSimpArgs false
open Go.RowKit Go.Lib
structure OpD where
  kind : Int
  on : Int
  x : Rec
  key : ByteArray
  num : Int
def OpD.cells (o : OpD) : List Value := [.int .i64 o.kind, .int .i64 o.on, .int .i64 o.x.session, .int .i64 o.x.epoch, .int .i64 o.x.number, .string o.x.key, .int .i64 o.x.value, .string o.key, .int .i64 o.num]
def OpD.value (o : OpD) : Value := .agg #[.int .i64 o.kind, .int .i64 o.on, .int .i64 o.x.session, .int .i64 o.x.epoch, .int .i64 o.x.number, .string o.x.key, .int .i64 o.x.value, .string o.key, .int .i64 o.num]
structure OpD.fits (o : OpD) : Prop where
  kind : inInt o.kind
  on : inInt o.on
  x : o.x.fits
  key : o.key.size ≤ maxLen
  num : inInt o.num
theorem relT_small {T : List UInt8} {w : World} {a : Addr} {o : Option St} {F : Nat → Prop} (h : RelT T w a o F) : (state? o).lanes.length ≤ 4 ∧ (state? o).keys.length ≤ 4 ∧ ∀ l ∈ (state? o).lanes, l.ws.length ≤ 4 := by
  cases o with
  | none => simp [state?]
  | some s =>
    obtain ⟨b, _, _, _, h⟩ := h
    obtain ⟨_, E, B, V, vk, vb, Q, ks, _, h5, h6, _⟩ := h
    refine ⟨by simp only [state?]; rw [h6.four]; omega, by simp only [state?]; rw [h6.keys]; exact h5.kl, fun l hl => ?_⟩
    simp only [state?] at hl
    obtain ⟨i, hi, e⟩ := List.getElem_of_mem hl
    have hi4 : i < 4 := by rw [← h6.four]; exact hi
    obtain ⟨l', g1, g2⟩ := h6.lane i hi4
    have : l' = l := by rw [List.getElem?_eq_getElem hi, e] at g1; exact (Option.some.inj g1).symm
    subst this
    rw [← g2.perm.length_eq]
    have := h5.ql i hi4
    omega
theorem relT_puts_len {T : List UInt8} {w : World} {a : Addr} {o : Option St} {F : Nat → Prop} (h : RelT T w a o F) : (puts? o).length ≤ 4 := by
  have := (relT_small h).2.1
  cases o with
  | none => simp [puts?]
  | some s =>
    simp only [state?, puts?] at this ⊢
    have := putsOf_short s.keys
    omega
theorem tells_acc {T T' : List UInt8} {w : World} {p : Addr} {F : Nat → Prop} {o : Option St} {x : Rec} {s : St} (h : ∀ s, o = some s → Tells T s) (hR : RelT T w p o F) (hx : x.fits) (hT : tapeAcc T x o (accept? o x).2 T') (hs : (accept? o x).2 = some s) : Tells T' s := by
  cases o with
  | none => cases hs
  | some s0 =>
    have := (h s0 rfl).grow (grow_acc (relT_fine hR) hx hT)
    cases hs
    exact this
theorem tells_ans {T T' : List UInt8} {o : Option St} {k : ByteArray} {n : Int} {s : St} (h : ∀ s, o = some s → Tells T s) (hn : inInt n) (hT : tapeAnsw T k n o (answer? o k n).2 T') (hs : (answer? o k n).2 = some s) : Tells T' s := by
  cases o with
  | none => cases hs
  | some s0 =>
    have := (h s0 rfl).grow (grow_ans hn.2 hT)
    cases hs
    exact this
theorem Book.putInks {w w' : World} {mb lo : Nat} {B : Nat → Prop} {r : Nat → Value} {L : Nat → List Value} (h : Book w mb 3 B r L) {v v1 v2 v3 r' : Value} {n : Nat} {xs : List Value} (hl : w.ownsRow lo 63 3 v n xs) (hlo : lo ≤ w.heap.size) (hBl : ∀ g, B g → g < lo) (hml : mb < lo) (hn : n ≤ 900)
    (hc : w'.cell? ⟨mb, 3 + 3, none⟩ = some r') (hr : w'.ownsRow 0 56 1 r' ((L 3).length + 4) (L 3 ++ [v, v1, v2, v3]))
    (hm : ∀ u, u = v ∨ u = v1 ∨ u = v2 ∨ u = v3 → Mk w' 3 1 (1000000 + (((L 3).length / 4 : Nat) : Int)) u ∧ Lst w.heap.size n v u)
    (hw : Wh w.heap.size (r 3) r') (hs : Slots mb (fun j => j = 3 + 3) w w') (cc : Chg (fun k => k = mb ∨ (r 3).ownBlock = some k ∨ v.ownBlock = some k) w w') : Inks w lo mb 3 B L w' := by
  have hv : ∀ g, v.ownBlock = some g → ¬ B g ∧ g ≠ mb ∧ g < w.heap.size := fun g hg => by
    have := hl.lt g hg
    exact ⟨fun e => by have := hBl g e; omega, by omega, this.2⟩
  refine ⟨_, _, _, h.step (x := 3) (by omega) (n := n) (by omega) hv hc hr hm hw hs cc, fun x hx => ?_, fun g hg => ?_, ?_, ?_⟩
  · by_cases e : x = 3
    · subst e; rw [putAt_at]; simp
    · rw [putAt_ne _ _ e]; omega
  · rcases hg with e | e | e
    · exact .inl e
    · exact .inr (hl.lt g e).1
    · exact .inr (by omega)
  · refine cc.mono (fun q e => ?_)
    rcases e with e | e | e
    · exact .inl e
    · exact .inr (.inl (h.rows 3 (by omega) q e))
    · exact .inr (.inr (hl.lt q e).1)
  · exact ⟨fun j hj => hs.cell j (by omega), hs.frozen⟩
section
variable {W0 w : World} {wb n N : Nat} {z : Nat → Nat} {pa ra : Nat → Addr} {st : Nat → Option St} {T : Nat → List UInt8} {FP FR : Nat → Nat → Prop} {B : Nat → Prop} {r : Nat → Value} {L : Nat → List Value} {vp vr : Value} {K : KD}
theorem Wd.at_k (h : Wd W0 w wb n N z pa ra st T FP FR B r L vp vr K) {k : Nat} (hk : k < n) :
    ∃ gp cp gr cr, vp = .slice (some ⟨gp, 0, none⟩) n cp ∧ vr = .slice (some ⟨gr, 0, none⟩) n cr ∧ w.cell? ⟨gp, k, none⟩ = some (.pointer (some (pa k))) ∧ w.cell? ⟨gr, k, none⟩ = some (.pointer (some (ra k))) := by
  obtain ⟨gp, cp, e1, _, _, h1⟩ := row_pos h.rp (by omega)
  obtain ⟨gr, cr, e2, _, _, h2⟩ := row_pos h.rr (by omega)
  exact ⟨gp, cp, gr, cr, e1, e2, h1 k _ (ptrs_at _ _ hk), h2 k _ (ptrs_at _ _ hk)⟩
theorem Wd.free (h : Wd W0 w wb n N z pa ra st T FP FR B r L vp vr K) {k : Nat} (hk : k < n) : ∀ q, FR k q → ¬ FP k q := fun q h1 h2 => by
  have := h.zP k hk q h2
  have := h.zR k hk q h1
  omega
end
end Go.Proofs.YthedkdbgfdjlkaaGreatDoor

namespace Go.Proofs.YthedkdbgfdjlkaaGreatDoor
set_option linter.unusedVariables false
set_option linter.unusedSimpArgs false
open Go.RowKit Go.Lib
theorem opd_new (w : World) (o : OpD) : ∀ j u, o.cells[j]? = some u → (w.alloc (.cells o.cells.toArray 82)).cell? ⟨w.heap.size, j, none⟩ = some u := fun j u hu => by
  rw [World.cell?_alloc_new]
  simpa using hu
set_option maxRecDepth 100000 in
set_option maxHeartbeats 4000000 in
theorem told_accept {W0 w : World} {wb n N : Nat} (hx : Wx W0 w wb n N) (hN : N ≤ 10000000) {k : Nat} (hk : k < n) (o : OpD) (hf : o.fits) (hkd : o.kind = 2) :
    Calls Tryz.prog 27 #[.pointer (some ⟨wb, 0, none⟩), .int .i64 k, o.value] w fun e w' => e = .returned (.bool true) ∧ Wx W0 w' wb n (N + 1) := by
  obtain ⟨z, pa, ra, st, T, FP, FR, B, r, L, vp, vr, K, h⟩ := hx
  obtain ⟨kd, on, ⟨xs, xe, xn, xk, xv⟩, key, num⟩ := o
  simp only at hkd
  subst hkd
  obtain ⟨gp, cp, gr, cr, rfl, rfl, m1, m2⟩ := h.at_k hk
  have hn : n ≤ 10000000 := Nat.le_trans h.many hN
  have hk' : (k : Int) < (n : Int) := by omega
  obtain ⟨W0, hW0⟩ : ∃ W0, W0 = w.alloc (.cells #[.int .i64 2, .int .i64 on, .int .i64 xs, .int .i64 xe, .int .i64 xn, .string xk, .int .i64 xv, .string key, .int .i64 num] 82) := ⟨_, rfl⟩
  have c0 : Chg (fun _ => False) w W0 := by rw [hW0]; exact (Chg.refl _ w).alloc _
  have ho : ∀ j u, (OpD.cells ⟨2, on, ⟨xs, xe, xn, xk, xv⟩, key, num⟩)[j]? = some u → W0.cell? ⟨w.heap.size, j, none⟩ = some u := by rw [hW0]; exact opd_new w _
  have o0 := ho 0 _ rfl
  have o2 := ho 2 _ rfl
  have o3 := ho 3 _ rfl
  have o4 := ho 4 _ rfl
  have o5 := ho 5 _ rfl
  have o6 := ho 6 _ rfl
  have h0 := h.keep c0
  have hal : ∀ (p : Addr) (v : Value), w.cell? p = some v → ∀ ob, (w.alloc ob).cell? p = some v := fun p v hv ob => (World.cell?_alloc_lt w ob p (World.block_lt_of_cell? _ _ hv)).trans hv
  have a0 := hal _ _ h.c0
  have a1 := hal _ _ h.c1
  have n1 := hal _ _ m1
  have n2 := hal _ _ m2
  have hacc := relT_accept ⟨xs, xe, xn, xk, xv⟩ (h0.relP k hk) (by have := h0.lenT k hk; omega) hf.x
  have hnb : ¬ FP k w.heap.size := fun e => by have := relT_lt (h.relP k hk) e; omega
  unfold OpD.value
  unfold Rec.value' at hacc
  simp only at hacc ⊢
  go_enter Tryz.func27, Tryz.ntmps27
  go_wp2_with (go_at_call 22; rw [← hW0]; refine hacc.mono ?_; rintro _ w1 ⟨F', T', rfl, hP, hT, hF, c1⟩; have s2 := c1.cellAt o2 hnb; have s3 := c1.cellAt o3 hnb; have s4 := c1.cellAt o4 hnb; have s5 := c1.cellAt o5 hnb; have s6 := c1.cellAt o6 hnb)
  clear hW0
  have hR1 := ref_stable (h0.relR k hk) (fun q hq => c1.block q (ref_lt (h0.relR k hk) hq) (h0.free hk q hq))
  have hra := ref_accept ⟨xs, xe, xn, xk, xv⟩ hR1 hf.x (by omega)
  unfold Rec.value' at hra
  simp only at hra
  go_wp2_with (first | (go_at_call 46; refine hra.mono ?_; rintro _ w2 ⟨G', rfl, hR, hG, c2⟩) | (go_at_call 47; refine (num_any _ _).mono ?_; rintro _ w9 ⟨rfl, e9⟩; rw [e9]; clear e9 w9))
  go_ret
  refine ⟨by simp, h0.turn hk c1 hP hF c2 (ref_more hR (by omega)) hG ?_ (fun s hs => ?_)⟩
  · have := h0.lenT k hk
    rcases hT with ⟨e, _⟩ | ⟨e, _, e2⟩
    · rw [e]; omega
    · rw [e, List.length_append]; omega
  · exact tells_acc (h0.tel k hk) (h0.relP k hk) hf.x hT hs
end Go.Proofs.YthedkdbgfdjlkaaGreatDoor

namespace Go.Proofs.YthedkdbgfdjlkaaGreatDoor
set_option linter.unusedVariables false
set_option linter.unusedSimpArgs false
open Go.RowKit Go.Lib
set_option maxRecDepth 100000 in
set_option maxHeartbeats 4000000 in
theorem told_close {W0 w : World} {wb n N : Nat} (hx : Wx W0 w wb n N) (hN : N ≤ 10000000) {k : Nat} (hk : k < n) (o : OpD) (hf : o.fits) (hkd : o.kind = 4) :
    Calls Tryz.prog 27 #[.pointer (some ⟨wb, 0, none⟩), .int .i64 k, o.value] w fun e w' => e = .returned (.bool true) ∧ Wx W0 w' wb n (N + 1) := by
  obtain ⟨z, pa, ra, st, T, FP, FR, B, r, L, vp, vr, K, h⟩ := hx
  obtain ⟨kd, on, ⟨xs, xe, xn, xk, xv⟩, key, num⟩ := o
  simp only at hkd
  subst hkd
  obtain ⟨gp, cp, gr, cr, rfl, rfl, m1, m2⟩ := h.at_k hk
  have hn : n ≤ 10000000 := Nat.le_trans h.many hN
  have hk' : (k : Int) < (n : Int) := by omega
  obtain ⟨W0, hW0⟩ : ∃ W0, W0 = w.alloc (.cells #[.int .i64 4, .int .i64 on, .int .i64 xs, .int .i64 xe, .int .i64 xn, .string xk, .int .i64 xv, .string key, .int .i64 num] 82) := ⟨_, rfl⟩
  have c0 : Chg (fun _ => False) w W0 := by rw [hW0]; exact (Chg.refl _ w).alloc _
  have ho : ∀ j u, (OpD.cells ⟨4, on, ⟨xs, xe, xn, xk, xv⟩, key, num⟩)[j]? = some u → W0.cell? ⟨w.heap.size, j, none⟩ = some u := by rw [hW0]; exact opd_new w _
  have o0 := ho 0 _ rfl
  have o2 := ho 2 _ rfl
  have o3 := ho 3 _ rfl
  have o4 := ho 4 _ rfl
  have o5 := ho 5 _ rfl
  have o6 := ho 6 _ rfl
  have h0 := h.keep c0
  have hal : ∀ (p : Addr) (v : Value), w.cell? p = some v → ∀ ob, (w.alloc ob).cell? p = some v := fun p v hv ob => (World.cell?_alloc_lt w ob p (World.block_lt_of_cell? _ _ hv)).trans hv
  have a0 := hal _ _ h.c0
  have a1 := hal _ _ h.c1
  have n1 := hal _ _ m1
  have n2 := hal _ _ m2
  have hcl := relT_close (h0.relP k hk)
  unfold OpD.value
  simp only
  go_enter Tryz.func27, Tryz.ntmps27
  go_wp2_with (go_at_call 24; rw [← hW0]; refine hcl.mono ?_; rintro _ w1 ⟨rfl, hP, c1⟩)
  clear hW0
  have hR1 := ref_stable (h0.relR k hk) (fun q hq => c1.block q (ref_lt (h0.relR k hk) hq) (h0.free hk q hq))
  have hra := ref_close hR1
  go_wp2_with (first | (go_at_call 51; refine hra.mono ?_; rintro _ w2 ⟨rfl, hR, c2⟩) | (go_at_call 47; refine (num_any _ _).mono ?_; rintro _ w9 ⟨rfl, e9⟩; rw [e9]; clear e9 w9))
  go_ret
  refine ⟨by simp, h0.turn hk c1 hP (fun g hg => .inl hg) c2 (ref_more hR (by omega)) (fun g hg => .inl hg) ?_ (fun s hs => by cases hs)⟩
  have := h0.lenT k hk
  omega
set_option maxRecDepth 100000 in
set_option maxHeartbeats 4000000 in
theorem told_answer {W0 w : World} {wb n N : Nat} (hx : Wx W0 w wb n N) (hN : N ≤ 10000000) {k : Nat} (hk : k < n) (o : OpD) (hf : o.fits) (hkd : o.kind = 6) :
    Calls Tryz.prog 27 #[.pointer (some ⟨wb, 0, none⟩), .int .i64 k, o.value] w fun e w' => e = .returned (.bool true) ∧ Wx W0 w' wb n (N + 1) := by
  obtain ⟨z, pa, ra, st, T, FP, FR, B, r, L, vp, vr, K, h⟩ := hx
  obtain ⟨kd, on, ⟨xs, xe, xn, xk, xv⟩, key, num⟩ := o
  simp only at hkd
  subst hkd
  obtain ⟨gp, cp, gr, cr, rfl, rfl, m1, m2⟩ := h.at_k hk
  have hn : n ≤ 10000000 := Nat.le_trans h.many hN
  have hk' : (k : Int) < (n : Int) := by omega
  obtain ⟨W0, hW0⟩ : ∃ W0, W0 = w.alloc (.cells #[.int .i64 6, .int .i64 on, .int .i64 xs, .int .i64 xe, .int .i64 xn, .string xk, .int .i64 xv, .string key, .int .i64 num] 82) := ⟨_, rfl⟩
  have c0 : Chg (fun _ => False) w W0 := by rw [hW0]; exact (Chg.refl _ w).alloc _
  have ho : ∀ j u, (OpD.cells ⟨6, on, ⟨xs, xe, xn, xk, xv⟩, key, num⟩)[j]? = some u → W0.cell? ⟨w.heap.size, j, none⟩ = some u := by rw [hW0]; exact opd_new w _
  have o0 := ho 0 _ rfl
  have o2 := ho 2 _ rfl
  have o3 := ho 3 _ rfl
  have o4 := ho 4 _ rfl
  have o5 := ho 5 _ rfl
  have o6 := ho 6 _ rfl
  have h0 := h.keep c0
  have hal : ∀ (p : Addr) (v : Value), w.cell? p = some v → ∀ ob, (w.alloc ob).cell? p = some v := fun p v hv ob => (World.cell?_alloc_lt w ob p (World.block_lt_of_cell? _ _ hv)).trans hv
  have a0 := hal _ _ h.c0
  have a1 := hal _ _ h.c1
  have n1 := hal _ _ m1
  have n2 := hal _ _ m2
  have o7 := ho 7 _ rfl
  have o8 := ho 8 _ rfl
  have han := relT_answer key num (h0.relP k hk) (by have := h0.lenT k hk; omega) hf.key hf.num
  have hnb : ¬ FP k w.heap.size := fun e => by have := relT_lt (h.relP k hk) e; omega
  unfold OpD.value
  simp only at han ⊢
  go_enter Tryz.func27, Tryz.ntmps27
  go_wp2_with (go_at_call 23; rw [← hW0]; refine han.mono ?_; rintro _ w1 ⟨F', T', rfl, hP, hT, hF, c1⟩; have s7 := c1.cellAt o7 hnb; have s8 := c1.cellAt o8 hnb)
  clear hW0
  have hR1 := ref_stable (h0.relR k hk) (fun q hq => c1.block q (ref_lt (h0.relR k hk) hq) (h0.free hk q hq))
  have hra := ref_answer key num hR1 hf.key hf.num (by omega)
  go_wp2_with (first | (go_at_call 55; refine hra.mono ?_; rintro _ w2 ⟨G', rfl, hR, hG, c2⟩) | (go_at_call 47; refine (num_any _ _).mono ?_; rintro _ w9 ⟨rfl, e9⟩; rw [e9]; clear e9 w9))
  go_ret
  refine ⟨by simp, h0.turn hk c1 hP hF c2 hR hG ?_ (fun s hs => ?_)⟩
  · have := h0.lenT k hk
    rcases hT with ⟨e, _⟩ | ⟨e, _, e2⟩
    · rw [e]; omega
    · rw [e, List.length_append]; omega
  · exact tells_ans (h0.tel k hk) hf.num hT hs
end Go.Proofs.YthedkdbgfdjlkaaGreatDoor
