/- THE LEDGER: fold, take, WALKED. -/
import Derived.Test.YtdoedjmdcmgddaaGreatK1
namespace Go.Proofs.YtdoedjmdcmgddaaGreat
set_option linter.unusedVariables false
set_option linter.unusedSimpArgs false
open Go.RowKit Go.Lib

theorem toNat_beq (c : UInt8) (n : Nat) (hn : n < 256) : (((c.toNat : Int)) == (n : Int)) = (c == UInt8.ofNat n) := by
  have h : (UInt8.ofNat n).toNat = n := by simp; omega
  by_cases e : c = UInt8.ofNat n
  · subst e; simp [h]
  · have : ¬ c.toNat = n := fun h' => e (UInt8.toNat_inj.1 (h'.trans h.symm))
    have h1 : (c == UInt8.ofNat n) = false := by simpa using e
    rw [h1]
    simp; omega
theorem c99 (c : UInt8) : (((c.toNat : Int)) == 99) = (c == 99) := toNat_beq c 99 (by omega)
theorem c115 (c : UInt8) : (((c.toNat : Int)) == 115) = (c == 115) := toNat_beq c 115 (by omega)
theorem c108 (c : UInt8) : (((c.toNat : Int)) == 108) = (c == 108) := toNat_beq c 108 (by omega)

theorem foldOne_c {k : ByteArray} {n f v : Int} {c : UInt8} {r : List UInt8} (hk : k.data.toList = c :: r) : foldOne k n f v = if c == 99 then n else if c == 115 then (f + v) % 4294967296 else if c == 108 then v else max f v := by
  simp only [foldOne, hk]

set_option maxRecDepth 100000 in
set_option maxHeartbeats 400000 in
theorem fold_any (k : Ky) (val : Int) (w : World) (c : UInt8) (r : List UInt8) (hk : k.name.data.toList = c :: r) (hf : 0 ≤ k.fold ∧ k.fold ≤ 4294967295) (hv : 0 ≤ val ∧ val ≤ 4294967295) (hok : okFirst c = true) :
    Calls Tryz.prog 115 #[k.agg, .int .i64 val] w fun e w' => e = .returned (.int .i64 (foldOne k.name k.count k.fold val)) ∧ Chg (fun _ => False) w w' := by
  obtain ⟨hf0, hf1⟩ := hf
  obtain ⟨hv0, hv1⟩ := hv
  have hlen : 0 < k.name.size := by show 0 < k.name.data.size; rw [← Array.length_toList, hk]; simp
  have h0 : k.name[0] = c := by
    have : k.name.data.toList[0]'(by rw [hk]; simp) = c := by simp [hk]
    exact this
  unfold Ky.agg
  go_enter Tryz.func115, Tryz.ntmps115
  go_wp2
  all_goals
    go_ret
    refine ⟨?_, (Chg.refl _ w).alloc _⟩
    rw [foldOne_c hk, ← c99, ← c115, ← c108]
    simp [*]

end Go.Proofs.YtdoedjmdcmgddaaGreat
