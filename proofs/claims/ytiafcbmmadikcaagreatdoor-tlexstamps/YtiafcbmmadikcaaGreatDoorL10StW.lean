/- The statement TlexStamps: its walk. -/
import Derived.Test.YtiafcbmmadikcaaGreatDoorL10St0
import Derived.Test.YtiafcbmmadikcaaGreatDoorL10St1
import Derived.Test.YtiafcbmmadikcaaGreatDoorL10St2
import Derived.Test.YtiafcbmmadikcaaGreatDoorL10St3
import Derived.Test.YtiafcbmmadikcaaGreatDoorL10St4
namespace Go.Proofs.YtiafcbmmadikcaaGreatDoor
open Go.RowKit

theorem stamps_in (Y M D H N S O : Nat) (hY : Y ≤ 9999) (hM : M ≤ 13) (hD : D ≤ 32) (hH : H ≤ 25) (hN : N ≤ 61) (hS : S ≤ 62) (hO : O ≤ 25) (w : World) (hg : GlobN w) :
    Calls Tryz.prog 5 #[.int .i64 (Y : Int), .int .i64 (M : Int), .int .i64 (D : Int), .int .i64 (H : Int), .int .i64 (N : Int), .int .i64 (S : Int), .int .i64 (O : Int)] w fun e w' => e = .returned (.bool true) ∧ Below w.heap.size w w' := by
  cases ha : avB Y M D with
  | false =>
    cases hb : bvB H N S with
    | false => exact stamps_in0 Y M D H N S O hY hM hD hH hN hS hO w hg ⟨ha, hb⟩
    | true => exact stamps_in1 Y M D H N S O hY hM hD hH hN hS hO w hg ⟨ha, hb⟩
  | true =>
    cases hb : bvB H N S with
    | false => exact stamps_in2 Y M D H N S O hY hM hD hH hN hS hO w hg ⟨ha, hb⟩
    | true =>
      by_cases ho : O < 24
      · exact stamps_in3 Y M D H N S O hY hM hD hH hN hS hO w hg ⟨ha, hb, ho⟩
      · exact stamps_in4 Y M D H N S O hY hM hD hH hN hS hO w hg ⟨ha, hb, ho⟩
theorem swf_bd {n : Int} (h : (Lit.int .i64 n).wf = true) : -9223372036854775808 ≤ n ∧ n < 9223372036854775808 := by
  simp [Lit.wf, IntKind.min, IntKind.max, IntKind.signed, IntKind.bits] at h; omega
set_option maxRecDepth 100000 in
set_option maxHeartbeats 8000000 in
theorem Tryz.tlexStamps_walk (y m d h n s o : Int) (_w0 : (Lit.int .i64 y).wf = true) (_w1 : (Lit.int .i64 m).wf = true) (_w2 : (Lit.int .i64 d).wf = true) (_w3 : (Lit.int .i64 h).wf = true) (_w4 : (Lit.int .i64 n).wf = true) (_w5 : (Lit.int .i64 s).wf = true) (_w6 : (Lit.int .i64 o).wf = true) (w : World) (hg : GlobN w) :
    Calls Tryz.prog 5 #[.int .i64 y, .int .i64 m, .int .i64 d, .int .i64 h, .int .i64 n, .int .i64 s, .int .i64 o] w fun e w' => e = .returned (.bool true) ∧ Below w.heap.size w w' := by
  by_cases g0 : y < 0
  · exact stamps_out0 y m d h n s o w hg g0
  have f0 : 0 ≤ y := by omega
  by_cases g1 : 9999 < y
  · exact stamps_out1 y m d h n s o w hg ⟨f0, g1⟩
  have f1 : y ≤ 9999 := by omega
  by_cases g2 : m < 0
  · exact stamps_out2 y m d h n s o w hg ⟨f0, f1, g2⟩
  have f2 : 0 ≤ m := by omega
  by_cases g3 : 13 < m
  · exact stamps_out3 y m d h n s o w hg ⟨f0, f1, f2, g3⟩
  have f3 : m ≤ 13 := by omega
  by_cases g4 : d < 0
  · exact stamps_out4 y m d h n s o w hg ⟨f0, f1, f2, f3, g4⟩
  have f4 : 0 ≤ d := by omega
  by_cases g5 : 32 < d
  · exact stamps_out5 y m d h n s o w hg ⟨f0, f1, f2, f3, f4, g5⟩
  have f5 : d ≤ 32 := by omega
  by_cases g6 : h < 0
  · exact stamps_out6 y m d h n s o w hg ⟨f0, f1, f2, f3, f4, f5, g6⟩
  have f6 : 0 ≤ h := by omega
  by_cases g7 : 25 < h
  · exact stamps_out7 y m d h n s o w hg ⟨f0, f1, f2, f3, f4, f5, f6, g7⟩
  have f7 : h ≤ 25 := by omega
  by_cases g8 : n < 0
  · exact stamps_out8 y m d h n s o w hg ⟨f0, f1, f2, f3, f4, f5, f6, f7, g8⟩
  have f8 : 0 ≤ n := by omega
  by_cases g9 : 61 < n
  · exact stamps_out9 y m d h n s o w hg ⟨f0, f1, f2, f3, f4, f5, f6, f7, f8, g9⟩
  have f9 : n ≤ 61 := by omega
  by_cases g10 : s < 0
  · exact stamps_out10 y m d h n s o w hg ⟨f0, f1, f2, f3, f4, f5, f6, f7, f8, f9, g10⟩
  have f10 : 0 ≤ s := by omega
  by_cases g11 : 62 < s
  · exact stamps_out11 y m d h n s o w hg ⟨f0, f1, f2, f3, f4, f5, f6, f7, f8, f9, f10, g11⟩
  have f11 : s ≤ 62 := by omega
  by_cases g12 : o < 0
  · exact stamps_out12 y m d h n s o w hg ⟨f0, f1, f2, f3, f4, f5, f6, f7, f8, f9, f10, f11, g12⟩
  have f12 : 0 ≤ o := by omega
  by_cases g13 : 25 < o
  · exact stamps_out13 y m d h n s o w hg ⟨f0, f1, f2, f3, f4, f5, f6, f7, f8, f9, f10, f11, f12, g13⟩
  have f13 : o ≤ 25 := by omega
  obtain ⟨Y, rfl⟩ : ∃ Y : Nat, y = (Y : Int) := ⟨y.toNat, by omega⟩
  obtain ⟨M, rfl⟩ : ∃ Y : Nat, m = (Y : Int) := ⟨m.toNat, by omega⟩
  obtain ⟨D, rfl⟩ : ∃ Y : Nat, d = (Y : Int) := ⟨d.toNat, by omega⟩
  obtain ⟨H, rfl⟩ : ∃ Y : Nat, h = (Y : Int) := ⟨h.toNat, by omega⟩
  obtain ⟨N, rfl⟩ : ∃ Y : Nat, n = (Y : Int) := ⟨n.toNat, by omega⟩
  obtain ⟨S, rfl⟩ : ∃ Y : Nat, s = (Y : Int) := ⟨s.toNat, by omega⟩
  obtain ⟨O, rfl⟩ : ∃ Y : Nat, o = (Y : Int) := ⟨o.toNat, by omega⟩
  exact stamps_in Y M D H N S O (by omega) (by omega) (by omega) (by omega) (by omega) (by omega) (by omega) w hg
end Go.Proofs.YtiafcbmmadikcaaGreatDoor
