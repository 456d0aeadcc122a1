/- The document's Plain, walked: each way by itself. -/
import Derived.Test.YtlapefhnbbcmmaaGreatDoorXRtQ
namespace Go.Proofs.YtlapefhnbbcmmaaGreatDoor
open Go.RowKit
set_option linter.unusedVariables false

set_option maxRecDepth 100000 in
set_option maxHeartbeats 8000000 in
theorem rpNeg (t : ByteArray) (a : Int) (w : World)
    (h : a < 0) :
    Calls Tryz.prog 9 #[.string t, .int .i64 a] w fun e w' => e = .returned (.tuple #[.agg #[.int .i64 0, .int .i64 0, .string ⟨#[]⟩, nilS, nilS], .int .i64 0, .int .i64 4, .int .i64 0]) ∧ Below w.heap.size w w' := by
  go_enter Tryz.func9, Tryz.ntmps9
  go_wp2_with fail
  refine bodyPost_ret (v := .tuple #[.agg #[.int .i64 0, .int .i64 0, .string ⟨#[]⟩, nilS, nilS], .int .i64 0, .int .i64 4, .int .i64 0]) (by simp [results, Tryz.results9, go_sem]) rfl ⟨rfl, ?_⟩
  repeat (first | exact Below.refl _ _ | (refine vset_bel ?_ (by simp)) | apply valloc_bel)
set_option maxRecDepth 100000 in
set_option maxHeartbeats 8000000 in
theorem rpOver (t : ByteArray) (a : Int) (w : World)
    (h : ¬ a < 0) (h2 : (t.size : Int) ≤ a) (ht : t.size ≤ 1000000) :
    Calls Tryz.prog 9 #[.string t, .int .i64 a] w fun e w' => e = .returned (.tuple #[.agg #[.int .i64 0, .int .i64 0, .string ⟨#[]⟩, nilS, nilS], .int .i64 0, .int .i64 4, .int .i64 (t.size : Int)]) ∧ Below w.heap.size w w' := by
  go_enter Tryz.func9, Tryz.ntmps9
  go_wp2_with fail
  refine bodyPost_ret (v := .tuple #[.agg #[.int .i64 0, .int .i64 0, .string ⟨#[]⟩, nilS, nilS], .int .i64 0, .int .i64 4, .int .i64 (t.size : Int)]) (by simp [results, Tryz.results9, go_sem]) rfl ⟨rfl, ?_⟩
  repeat (first | exact Below.refl _ _ | (refine vset_bel ?_ (by simp)) | apply valloc_bel)
set_option maxRecDepth 100000 in
set_option maxHeartbeats 8000000 in
theorem rpQ34b (t S : ByteArray) (a nx : Nat) (bad : Int) (w : World)
    (ht : t.size ≤ 1000000) (ha : a < t.size)
    (hq : t[a].toNat = 34)
    (CT : Hid (∀ X, Calls Tryz.prog 32 #[.string t, .int .i64 (a : Int)] X fun e w' => e = .returned (.tuple #[.string S, .int .i64 (nx : Int), .int .i64 bad]) ∧ Below X.heap.size X w'))
    (h0 : 0 ≤ bad) :
    Calls Tryz.prog 9 #[.string t, .int .i64 (a : Int)] w fun e w' => e = .returned (.tuple #[.agg #[.int .i64 0, .int .i64 0, .string ⟨#[]⟩, nilS, nilS], .int .i64 0, .int .i64 4, .int .i64 bad]) ∧ Below w.heap.size w w' := by
  have n1 : ¬ (a : Int) < 0 := by omega
  have n2 : ¬ (t.size : Int) ≤ (a : Int) := by omega
  have k1 : ((t[a].toNat : Int) == 34) = true := by rw [hq]; rfl
  clear hq
  go_enter Tryz.func9, Tryz.ntmps9
  go_wp2_with fail
  go_at_call 32
  refine (CT.out _).mono ?_
  rintro e w2 ⟨rfl, hb2⟩
  have R2 := hid (box_row hb2)
  have HB2 := hid (vonto (valloc_bel (Below.refl w.heap.size w) _) hb2)
  clear hb2 CT
  obtain ⟨u0, e0⟩ := R2.out.cell (o := 0) (by decide)
  obtain ⟨u1, e1⟩ := R2.out.cell (o := 1) (by decide)
  obtain ⟨u2, e2⟩ := R2.out.cell (o := 2) (by decide)
  obtain ⟨u3, e3⟩ := R2.out.cell (o := 3) (by decide)
  obtain ⟨u4, e4⟩ := R2.out.cell (o := 4) (by decide)
  have z0 := R2.out.frozen
  go_wp2_with fail
  refine bodyPost_ret (v := .tuple #[.agg #[.int .i64 0, .int .i64 0, .string ⟨#[]⟩, nilS, nilS], .int .i64 0, .int .i64 4, .int .i64 bad]) (by simp [results, Tryz.results9, go_sem, e0, e1, e2, e3, e4]) rfl ⟨rfl, ?_⟩
  repeat (first | exact HB2.out | (refine vset_bel ?_ (by simp)) | apply valloc_bel)
set_option maxRecDepth 100000 in
set_option maxHeartbeats 8000000 in
theorem rpQ34l (t S : ByteArray) (a nx : Nat) (bad : Int) (w : World)
    (ht : t.size ≤ 1000000) (ha : a < t.size)
    (hq : t[a].toNat = 34)
    (CT : Hid (∀ X, Calls Tryz.prog 32 #[.string t, .int .i64 (a : Int)] X fun e w' => e = .returned (.tuple #[.string S, .int .i64 (nx : Int), .int .i64 bad]) ∧ Below X.heap.size X w'))
    (h0 : ¬ 0 ≤ bad) (h4 : 4096 < S.size) :
    Calls Tryz.prog 9 #[.string t, .int .i64 (a : Int)] w fun e w' => e = .returned (.tuple #[.agg #[.int .i64 0, .int .i64 0, .string ⟨#[]⟩, nilS, nilS], .int .i64 0, .int .i64 2, .int .i64 (a : Int)]) ∧ Below w.heap.size w w' := by
  have h4z : (4096 : Int) < (S.size : Int) := by omega
  have n1 : ¬ (a : Int) < 0 := by omega
  have n2 : ¬ (t.size : Int) ≤ (a : Int) := by omega
  have k1 : ((t[a].toNat : Int) == 34) = true := by rw [hq]; rfl
  clear hq
  go_enter Tryz.func9, Tryz.ntmps9
  go_wp2_with fail
  go_at_call 32
  refine (CT.out _).mono ?_
  rintro e w2 ⟨rfl, hb2⟩
  have R2 := hid (box_row hb2)
  have HB2 := hid (vonto (valloc_bel (Below.refl w.heap.size w) _) hb2)
  clear hb2 CT
  obtain ⟨u0, e0⟩ := R2.out.cell (o := 0) (by decide)
  obtain ⟨u1, e1⟩ := R2.out.cell (o := 1) (by decide)
  obtain ⟨u2, e2⟩ := R2.out.cell (o := 2) (by decide)
  obtain ⟨u3, e3⟩ := R2.out.cell (o := 3) (by decide)
  obtain ⟨u4, e4⟩ := R2.out.cell (o := 4) (by decide)
  have z0 := R2.out.frozen
  go_wp2_with fail
  refine bodyPost_ret (v := .tuple #[.agg #[.int .i64 0, .int .i64 0, .string ⟨#[]⟩, nilS, nilS], .int .i64 0, .int .i64 2, .int .i64 (a : Int)]) (by simp [results, Tryz.results9, go_sem, e0, e1, e2, e3, e4]) rfl ⟨rfl, ?_⟩
  repeat (first | exact HB2.out | (refine vset_bel ?_ (by simp)) | apply valloc_bel)
set_option maxRecDepth 100000 in
set_option maxHeartbeats 8000000 in
theorem rpQ34k (t S : ByteArray) (a nx : Nat) (bad : Int) (w : World)
    (ht : t.size ≤ 1000000) (ha : a < t.size)
    (hq : t[a].toNat = 34)
    (CT : Hid (∀ X, Calls Tryz.prog 32 #[.string t, .int .i64 (a : Int)] X fun e w' => e = .returned (.tuple #[.string S, .int .i64 (nx : Int), .int .i64 bad]) ∧ Below X.heap.size X w'))
    (h0 : ¬ 0 ≤ bad) (h4 : ¬ 4096 < S.size) :
    Calls Tryz.prog 9 #[.string t, .int .i64 (a : Int)] w fun e w' => e = .returned (.tuple #[.agg #[.int .i64 4, .int .i64 0, .string S, nilS, nilS], .int .i64 (nx : Int), .int .i64 0, .int .i64 0]) ∧ Below w.heap.size w w' := by
  have h4z : ¬ (4096 : Int) < (S.size : Int) := by omega
  have n1 : ¬ (a : Int) < 0 := by omega
  have n2 : ¬ (t.size : Int) ≤ (a : Int) := by omega
  have k1 : ((t[a].toNat : Int) == 34) = true := by rw [hq]; rfl
  clear hq
  go_enter Tryz.func9, Tryz.ntmps9
  go_wp2_with fail
  go_at_call 32
  refine (CT.out _).mono ?_
  rintro e w2 ⟨rfl, hb2⟩
  have R2 := hid (box_row hb2)
  have HB2 := hid (vonto (valloc_bel (Below.refl w.heap.size w) _) hb2)
  clear hb2 CT
  obtain ⟨u0, e0⟩ := R2.out.cell (o := 0) (by decide)
  obtain ⟨u1, e1⟩ := R2.out.cell (o := 1) (by decide)
  obtain ⟨u2, e2⟩ := R2.out.cell (o := 2) (by decide)
  obtain ⟨u3, e3⟩ := R2.out.cell (o := 3) (by decide)
  obtain ⟨u4, e4⟩ := R2.out.cell (o := 4) (by decide)
  have z0 := R2.out.frozen
  go_wp2_with fail
  refine bodyPost_ret (v := .tuple #[.agg #[.int .i64 4, .int .i64 0, .string S, nilS, nilS], .int .i64 (nx : Int), .int .i64 0, .int .i64 0]) (by simp [results, Tryz.results9, go_sem, e0, e1, e2, e3, e4]) rfl ⟨rfl, ?_⟩
  repeat (first | exact HB2.out | (refine vset_bel ?_ (by simp)) | apply valloc_bel)
set_option maxRecDepth 100000 in
set_option maxHeartbeats 8000000 in
theorem rpQ39b (t S : ByteArray) (a nx : Nat) (bad : Int) (w : World)
    (ht : t.size ≤ 1000000) (ha : a < t.size)
    (hq : t[a].toNat = 39)
    (CT : Hid (∀ X, Calls Tryz.prog 32 #[.string t, .int .i64 (a : Int)] X fun e w' => e = .returned (.tuple #[.string S, .int .i64 (nx : Int), .int .i64 bad]) ∧ Below X.heap.size X w'))
    (h0 : 0 ≤ bad) :
    Calls Tryz.prog 9 #[.string t, .int .i64 (a : Int)] w fun e w' => e = .returned (.tuple #[.agg #[.int .i64 0, .int .i64 0, .string ⟨#[]⟩, nilS, nilS], .int .i64 0, .int .i64 4, .int .i64 bad]) ∧ Below w.heap.size w w' := by
  have n1 : ¬ (a : Int) < 0 := by omega
  have n2 : ¬ (t.size : Int) ≤ (a : Int) := by omega
  have k1 : ((t[a].toNat : Int) == 34) = false := by rw [hq]; rfl
  have k2 : ((t[a].toNat : Int) == 39) = true := by rw [hq]; rfl
  clear hq
  go_enter Tryz.func9, Tryz.ntmps9
  go_wp2_with fail
  go_at_call 32
  refine (CT.out _).mono ?_
  rintro e w2 ⟨rfl, hb2⟩
  have R2 := hid (box_row hb2)
  have HB2 := hid (vonto (valloc_bel (Below.refl w.heap.size w) _) hb2)
  clear hb2 CT
  obtain ⟨u0, e0⟩ := R2.out.cell (o := 0) (by decide)
  obtain ⟨u1, e1⟩ := R2.out.cell (o := 1) (by decide)
  obtain ⟨u2, e2⟩ := R2.out.cell (o := 2) (by decide)
  obtain ⟨u3, e3⟩ := R2.out.cell (o := 3) (by decide)
  obtain ⟨u4, e4⟩ := R2.out.cell (o := 4) (by decide)
  have z0 := R2.out.frozen
  go_wp2_with fail
  refine bodyPost_ret (v := .tuple #[.agg #[.int .i64 0, .int .i64 0, .string ⟨#[]⟩, nilS, nilS], .int .i64 0, .int .i64 4, .int .i64 bad]) (by simp [results, Tryz.results9, go_sem, e0, e1, e2, e3, e4]) rfl ⟨rfl, ?_⟩
  repeat (first | exact HB2.out | (refine vset_bel ?_ (by simp)) | apply valloc_bel)
set_option maxRecDepth 100000 in
set_option maxHeartbeats 8000000 in
theorem rpQ39l (t S : ByteArray) (a nx : Nat) (bad : Int) (w : World)
    (ht : t.size ≤ 1000000) (ha : a < t.size)
    (hq : t[a].toNat = 39)
    (CT : Hid (∀ X, Calls Tryz.prog 32 #[.string t, .int .i64 (a : Int)] X fun e w' => e = .returned (.tuple #[.string S, .int .i64 (nx : Int), .int .i64 bad]) ∧ Below X.heap.size X w'))
    (h0 : ¬ 0 ≤ bad) (h4 : 4096 < S.size) :
    Calls Tryz.prog 9 #[.string t, .int .i64 (a : Int)] w fun e w' => e = .returned (.tuple #[.agg #[.int .i64 0, .int .i64 0, .string ⟨#[]⟩, nilS, nilS], .int .i64 0, .int .i64 2, .int .i64 (a : Int)]) ∧ Below w.heap.size w w' := by
  have h4z : (4096 : Int) < (S.size : Int) := by omega
  have n1 : ¬ (a : Int) < 0 := by omega
  have n2 : ¬ (t.size : Int) ≤ (a : Int) := by omega
  have k1 : ((t[a].toNat : Int) == 34) = false := by rw [hq]; rfl
  have k2 : ((t[a].toNat : Int) == 39) = true := by rw [hq]; rfl
  clear hq
  go_enter Tryz.func9, Tryz.ntmps9
  go_wp2_with fail
  go_at_call 32
  refine (CT.out _).mono ?_
  rintro e w2 ⟨rfl, hb2⟩
  have R2 := hid (box_row hb2)
  have HB2 := hid (vonto (valloc_bel (Below.refl w.heap.size w) _) hb2)
  clear hb2 CT
  obtain ⟨u0, e0⟩ := R2.out.cell (o := 0) (by decide)
  obtain ⟨u1, e1⟩ := R2.out.cell (o := 1) (by decide)
  obtain ⟨u2, e2⟩ := R2.out.cell (o := 2) (by decide)
  obtain ⟨u3, e3⟩ := R2.out.cell (o := 3) (by decide)
  obtain ⟨u4, e4⟩ := R2.out.cell (o := 4) (by decide)
  have z0 := R2.out.frozen
  go_wp2_with fail
  refine bodyPost_ret (v := .tuple #[.agg #[.int .i64 0, .int .i64 0, .string ⟨#[]⟩, nilS, nilS], .int .i64 0, .int .i64 2, .int .i64 (a : Int)]) (by simp [results, Tryz.results9, go_sem, e0, e1, e2, e3, e4]) rfl ⟨rfl, ?_⟩
  repeat (first | exact HB2.out | (refine vset_bel ?_ (by simp)) | apply valloc_bel)
set_option maxRecDepth 100000 in
set_option maxHeartbeats 8000000 in
theorem rpQ39k (t S : ByteArray) (a nx : Nat) (bad : Int) (w : World)
    (ht : t.size ≤ 1000000) (ha : a < t.size)
    (hq : t[a].toNat = 39)
    (CT : Hid (∀ X, Calls Tryz.prog 32 #[.string t, .int .i64 (a : Int)] X fun e w' => e = .returned (.tuple #[.string S, .int .i64 (nx : Int), .int .i64 bad]) ∧ Below X.heap.size X w'))
    (h0 : ¬ 0 ≤ bad) (h4 : ¬ 4096 < S.size) :
    Calls Tryz.prog 9 #[.string t, .int .i64 (a : Int)] w fun e w' => e = .returned (.tuple #[.agg #[.int .i64 4, .int .i64 0, .string S, nilS, nilS], .int .i64 (nx : Int), .int .i64 0, .int .i64 0]) ∧ Below w.heap.size w w' := by
  have h4z : ¬ (4096 : Int) < (S.size : Int) := by omega
  have n1 : ¬ (a : Int) < 0 := by omega
  have n2 : ¬ (t.size : Int) ≤ (a : Int) := by omega
  have k1 : ((t[a].toNat : Int) == 34) = false := by rw [hq]; rfl
  have k2 : ((t[a].toNat : Int) == 39) = true := by rw [hq]; rfl
  clear hq
  go_enter Tryz.func9, Tryz.ntmps9
  go_wp2_with fail
  go_at_call 32
  refine (CT.out _).mono ?_
  rintro e w2 ⟨rfl, hb2⟩
  have R2 := hid (box_row hb2)
  have HB2 := hid (vonto (valloc_bel (Below.refl w.heap.size w) _) hb2)
  clear hb2 CT
  obtain ⟨u0, e0⟩ := R2.out.cell (o := 0) (by decide)
  obtain ⟨u1, e1⟩ := R2.out.cell (o := 1) (by decide)
  obtain ⟨u2, e2⟩ := R2.out.cell (o := 2) (by decide)
  obtain ⟨u3, e3⟩ := R2.out.cell (o := 3) (by decide)
  obtain ⟨u4, e4⟩ := R2.out.cell (o := 4) (by decide)
  have z0 := R2.out.frozen
  go_wp2_with fail
  refine bodyPost_ret (v := .tuple #[.agg #[.int .i64 4, .int .i64 0, .string S, nilS, nilS], .int .i64 (nx : Int), .int .i64 0, .int .i64 0]) (by simp [results, Tryz.results9, go_sem, e0, e1, e2, e3, e4]) rfl ⟨rfl, ?_⟩
  repeat (first | exact HB2.out | (refine vset_bel ?_ (by simp)) | apply valloc_bel)
end Go.Proofs.YtlapefhnbbcmmaaGreatDoor
