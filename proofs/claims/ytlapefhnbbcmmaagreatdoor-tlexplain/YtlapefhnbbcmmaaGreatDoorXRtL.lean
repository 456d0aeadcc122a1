/- The document's Number, walked: the ways with a base said. -/
import Derived.Test.YtlapefhnbbcmmaaGreatDoorXRtK
namespace Go.Proofs.YtlapefhnbbcmmaaGreatDoor
open Go.RowKit

set_option maxRecDepth 100000 in
set_option maxHeartbeats 4000000 in
theorem rnB16n (s b D : ByteArray) (sv : Int) (w : World) (CU : Hid (∀ X, Calls Tryz.prog 36 #[.string s] X fun e w' => e = .returned (.tuple #[.string b, .int .u8 sv]) ∧ Below X.heap.size X w')) (CC : Hid (∀ X, Calls Tryz.prog 37 #[.string (b.extract 2 b.size), .int .i64 16] X fun e w' => e = .returned (.tuple #[.string D, .bool false]) ∧ w' = X)) 
    (q1 : (b.toList == [105, 110, 102]) = false) (q2 : (b.toList == [110, 97, 110]) = false) (h2 : 2 < b.size) (h0 : b[0].toNat = 48) (h1 : b[1].toNat = 120)  :
    Calls Tryz.prog 11 #[.string s] w fun e w' => e = .returned (.tuple #[.agg #[.int .i64 0, .int .i64 0, .string ⟨#[]⟩, nilS, nilS], .int .i64 4]) ∧ Below w.heap.size w w' := by
  have g0 : ((b[0].toNat : Int) == 48) = true := by rw [h0]; rfl
  have k120 : ((b[1].toNat : Int) == 120) = true := by rw [h1]; rfl
  have k111 : ((b[1].toNat : Int) == 111) = false := by rw [h1]; rfl
  have k98 : ((b[1].toNat : Int) == 98) = false := by rw [h1]; rfl
  have h2z : (2 : Int) < (b.size : Int) := by omega
  have h3z : 2 ≤ b.size := by omega
  clear h0 h1
  go_enter Tryz.func11, Tryz.ntmps11
  go_wp2_with fail
  go_at_call 36
  refine (CU.out _).mono ?_
  rintro e w2 ⟨rfl, hb2⟩
  have R0 := hid (box_row hb2)
  have HB2 := hid (vonto (valloc_bel (Below.refl w.heap.size w) _) hb2)
  clear hb2
  obtain ⟨u0, e0⟩ := R0.out.cell (o := 0) (by decide)
  obtain ⟨u1, e1⟩ := R0.out.cell (o := 1) (by decide)
  obtain ⟨u2, e2⟩ := R0.out.cell (o := 2) (by decide)
  obtain ⟨u3, e3⟩ := R0.out.cell (o := 3) (by decide)
  obtain ⟨u4, e4⟩ := R0.out.cell (o := 4) (by decide)
  have z0 := R0.out.frozen
  go_wp2_with (first | (go_at_call 37; go_must (refine (CC.out _).mono ?_; rintro e w3 ⟨rfl, hw3⟩; obtain rfl := hw3.symm)))
  refine bodyPost_ret (v := .tuple #[.agg #[.int .i64 0, .int .i64 0, .string ⟨#[]⟩, nilS, nilS], .int .i64 4]) (by simp [results, Tryz.results11, go_sem, e0, e1, e2, e3, e4]) rfl ⟨rfl, ?_⟩
  repeat (first | exact HB2.out | (refine vset_bel ?_ (by simp)))
set_option maxRecDepth 100000 in
set_option maxHeartbeats 4000000 in
theorem rnB16s (s b D : ByteArray) (sv : Int) (w : World) (CU : Hid (∀ X, Calls Tryz.prog 36 #[.string s] X fun e w' => e = .returned (.tuple #[.string b, .int .u8 sv]) ∧ Below X.heap.size X w')) (CC : Hid (∀ X, Calls Tryz.prog 37 #[.string (b.extract 2 b.size), .int .i64 16] X fun e w' => e = .returned (.tuple #[.string D, .bool true]) ∧ w' = X)) 
    (q1 : (b.toList == [105, 110, 102]) = false) (q2 : (b.toList == [110, 97, 110]) = false) (h2 : 2 < b.size) (h0 : b[0].toNat = 48) (h1 : b[1].toNat = 120) (hsv : ¬ sv = 0) :
    Calls Tryz.prog 11 #[.string s] w fun e w' => e = .returned (.tuple #[.agg #[.int .i64 0, .int .i64 0, .string ⟨#[]⟩, nilS, nilS], .int .i64 4]) ∧ Below w.heap.size w w' := by
  have g0 : ((b[0].toNat : Int) == 48) = true := by rw [h0]; rfl
  have k120 : ((b[1].toNat : Int) == 120) = true := by rw [h1]; rfl
  have k111 : ((b[1].toNat : Int) == 111) = false := by rw [h1]; rfl
  have k98 : ((b[1].toNat : Int) == 98) = false := by rw [h1]; rfl
  have h2z : (2 : Int) < (b.size : Int) := by omega
  have h3z : 2 ≤ b.size := by omega
  have gs : (sv != 0) = true := by rw [bne_iff_ne]; exact hsv
  clear h0 h1 hsv
  go_enter Tryz.func11, Tryz.ntmps11
  go_wp2_with fail
  go_at_call 36
  refine (CU.out _).mono ?_
  rintro e w2 ⟨rfl, hb2⟩
  have R0 := hid (box_row hb2)
  have HB2 := hid (vonto (valloc_bel (Below.refl w.heap.size w) _) hb2)
  clear hb2
  obtain ⟨u0, e0⟩ := R0.out.cell (o := 0) (by decide)
  obtain ⟨u1, e1⟩ := R0.out.cell (o := 1) (by decide)
  obtain ⟨u2, e2⟩ := R0.out.cell (o := 2) (by decide)
  obtain ⟨u3, e3⟩ := R0.out.cell (o := 3) (by decide)
  obtain ⟨u4, e4⟩ := R0.out.cell (o := 4) (by decide)
  have z0 := R0.out.frozen
  go_wp2_with (first | (go_at_call 37; go_must (refine (CC.out _).mono ?_; rintro e w3 ⟨rfl, hw3⟩; obtain rfl := hw3.symm)))
  refine bodyPost_ret (v := .tuple #[.agg #[.int .i64 0, .int .i64 0, .string ⟨#[]⟩, nilS, nilS], .int .i64 4]) (by simp [results, Tryz.results11, go_sem, e0, e1, e2, e3, e4]) rfl ⟨rfl, ?_⟩
  repeat (first | exact HB2.out | (refine vset_bel ?_ (by simp)))
set_option maxRecDepth 100000 in
set_option maxHeartbeats 4000000 in
theorem rnB16r (s b D : ByteArray) (sv : Int) (N : Int) (w : World) (CU : Hid (∀ X, Calls Tryz.prog 36 #[.string s] X fun e w' => e = .returned (.tuple #[.string b, .int .u8 sv]) ∧ Below X.heap.size X w')) (CC : Hid (∀ X, Calls Tryz.prog 37 #[.string (b.extract 2 b.size), .int .i64 16] X fun e w' => e = .returned (.tuple #[.string D, .bool true]) ∧ w' = X)) (CB : Hid (∀ X, Calls Tryz.prog 38 #[.string D, .int .i64 16] X fun e w' => e = .returned (.tuple #[.int .i64 N, .bool false]) ∧ w' = X))
    (q1 : (b.toList == [105, 110, 102]) = false) (q2 : (b.toList == [110, 97, 110]) = false) (h2 : 2 < b.size) (h0 : b[0].toNat = 48) (h1 : b[1].toNat = 120) (hsv : sv = 0) :
    Calls Tryz.prog 11 #[.string s] w fun e w' => e = .returned (.tuple #[.agg #[.int .i64 0, .int .i64 0, .string ⟨#[]⟩, nilS, nilS], .int .i64 6]) ∧ Below w.heap.size w w' := by
  have g0 : ((b[0].toNat : Int) == 48) = true := by rw [h0]; rfl
  have k120 : ((b[1].toNat : Int) == 120) = true := by rw [h1]; rfl
  have k111 : ((b[1].toNat : Int) == 111) = false := by rw [h1]; rfl
  have k98 : ((b[1].toNat : Int) == 98) = false := by rw [h1]; rfl
  have h2z : (2 : Int) < (b.size : Int) := by omega
  have h3z : 2 ≤ b.size := by omega
  have gs : (sv != 0) = false := by rw [hsv]; rfl
  clear h0 h1 hsv
  go_enter Tryz.func11, Tryz.ntmps11
  go_wp2_with fail
  go_at_call 36
  refine (CU.out _).mono ?_
  rintro e w2 ⟨rfl, hb2⟩
  have R0 := hid (box_row hb2)
  have HB2 := hid (vonto (valloc_bel (Below.refl w.heap.size w) _) hb2)
  clear hb2
  obtain ⟨u0, e0⟩ := R0.out.cell (o := 0) (by decide)
  obtain ⟨u1, e1⟩ := R0.out.cell (o := 1) (by decide)
  obtain ⟨u2, e2⟩ := R0.out.cell (o := 2) (by decide)
  obtain ⟨u3, e3⟩ := R0.out.cell (o := 3) (by decide)
  obtain ⟨u4, e4⟩ := R0.out.cell (o := 4) (by decide)
  have z0 := R0.out.frozen
  go_wp2_with (first | (go_at_call 37; go_must (refine (CC.out _).mono ?_; rintro e w3 ⟨rfl, hw3⟩; obtain rfl := hw3.symm)) | (go_at_call 38; go_must (refine (CB.out _).mono ?_; rintro e w4 ⟨rfl, hw4⟩; obtain rfl := hw4.symm)))
  refine bodyPost_ret (v := .tuple #[.agg #[.int .i64 0, .int .i64 0, .string ⟨#[]⟩, nilS, nilS], .int .i64 6]) (by simp [results, Tryz.results11, go_sem, e0, e1, e2, e3, e4]) rfl ⟨rfl, ?_⟩
  repeat (first | exact HB2.out | (refine vset_bel ?_ (by simp)))
set_option maxRecDepth 100000 in
set_option maxHeartbeats 4000000 in
theorem rnB16f (s b D : ByteArray) (sv : Int) (N : Int) (w : World) (CU : Hid (∀ X, Calls Tryz.prog 36 #[.string s] X fun e w' => e = .returned (.tuple #[.string b, .int .u8 sv]) ∧ Below X.heap.size X w')) (CC : Hid (∀ X, Calls Tryz.prog 37 #[.string (b.extract 2 b.size), .int .i64 16] X fun e w' => e = .returned (.tuple #[.string D, .bool true]) ∧ w' = X)) (CB : Hid (∀ X, Calls Tryz.prog 38 #[.string D, .int .i64 16] X fun e w' => e = .returned (.tuple #[.int .i64 N, .bool true]) ∧ w' = X))
    (q1 : (b.toList == [105, 110, 102]) = false) (q2 : (b.toList == [110, 97, 110]) = false) (h2 : 2 < b.size) (h0 : b[0].toNat = 48) (h1 : b[1].toNat = 120) (hsv : sv = 0) :
    Calls Tryz.prog 11 #[.string s] w fun e w' => e = .returned (.tuple #[.agg #[.int .i64 2, .int .i64 N, .string ⟨#[]⟩, nilS, nilS], .int .i64 0]) ∧ Below w.heap.size w w' := by
  have g0 : ((b[0].toNat : Int) == 48) = true := by rw [h0]; rfl
  have k120 : ((b[1].toNat : Int) == 120) = true := by rw [h1]; rfl
  have k111 : ((b[1].toNat : Int) == 111) = false := by rw [h1]; rfl
  have k98 : ((b[1].toNat : Int) == 98) = false := by rw [h1]; rfl
  have h2z : (2 : Int) < (b.size : Int) := by omega
  have h3z : 2 ≤ b.size := by omega
  have gs : (sv != 0) = false := by rw [hsv]; rfl
  clear h0 h1 hsv
  go_enter Tryz.func11, Tryz.ntmps11
  go_wp2_with fail
  go_at_call 36
  refine (CU.out _).mono ?_
  rintro e w2 ⟨rfl, hb2⟩
  have R0 := hid (box_row hb2)
  have HB2 := hid (vonto (valloc_bel (Below.refl w.heap.size w) _) hb2)
  clear hb2
  obtain ⟨u0, e0⟩ := R0.out.cell (o := 0) (by decide)
  obtain ⟨u1, e1⟩ := R0.out.cell (o := 1) (by decide)
  obtain ⟨u2, e2⟩ := R0.out.cell (o := 2) (by decide)
  obtain ⟨u3, e3⟩ := R0.out.cell (o := 3) (by decide)
  obtain ⟨u4, e4⟩ := R0.out.cell (o := 4) (by decide)
  have z0 := R0.out.frozen
  go_wp2_with (first | (go_at_call 37; go_must (refine (CC.out _).mono ?_; rintro e w3 ⟨rfl, hw3⟩; obtain rfl := hw3.symm)) | (go_at_call 38; go_must (refine (CB.out _).mono ?_; rintro e w4 ⟨rfl, hw4⟩; obtain rfl := hw4.symm)))
  refine bodyPost_ret (v := .tuple #[.agg #[.int .i64 2, .int .i64 N, .string ⟨#[]⟩, nilS, nilS], .int .i64 0]) (by simp [results, Tryz.results11, go_sem, e0, e1, e2, e3, e4]) rfl ⟨rfl, ?_⟩
  repeat (first | exact HB2.out | (refine vset_bel ?_ (by simp)))
set_option maxRecDepth 100000 in
set_option maxHeartbeats 4000000 in
theorem rnB8n (s b D : ByteArray) (sv : Int) (w : World) (CU : Hid (∀ X, Calls Tryz.prog 36 #[.string s] X fun e w' => e = .returned (.tuple #[.string b, .int .u8 sv]) ∧ Below X.heap.size X w')) (CC : Hid (∀ X, Calls Tryz.prog 37 #[.string (b.extract 2 b.size), .int .i64 8] X fun e w' => e = .returned (.tuple #[.string D, .bool false]) ∧ w' = X)) 
    (q1 : (b.toList == [105, 110, 102]) = false) (q2 : (b.toList == [110, 97, 110]) = false) (h2 : 2 < b.size) (h0 : b[0].toNat = 48) (h1 : b[1].toNat = 111)  :
    Calls Tryz.prog 11 #[.string s] w fun e w' => e = .returned (.tuple #[.agg #[.int .i64 0, .int .i64 0, .string ⟨#[]⟩, nilS, nilS], .int .i64 4]) ∧ Below w.heap.size w w' := by
  have g0 : ((b[0].toNat : Int) == 48) = true := by rw [h0]; rfl
  have k120 : ((b[1].toNat : Int) == 120) = false := by rw [h1]; rfl
  have k111 : ((b[1].toNat : Int) == 111) = true := by rw [h1]; rfl
  have k98 : ((b[1].toNat : Int) == 98) = false := by rw [h1]; rfl
  have h2z : (2 : Int) < (b.size : Int) := by omega
  have h3z : 2 ≤ b.size := by omega
  clear h0 h1
  go_enter Tryz.func11, Tryz.ntmps11
  go_wp2_with fail
  go_at_call 36
  refine (CU.out _).mono ?_
  rintro e w2 ⟨rfl, hb2⟩
  have R0 := hid (box_row hb2)
  have HB2 := hid (vonto (valloc_bel (Below.refl w.heap.size w) _) hb2)
  clear hb2
  obtain ⟨u0, e0⟩ := R0.out.cell (o := 0) (by decide)
  obtain ⟨u1, e1⟩ := R0.out.cell (o := 1) (by decide)
  obtain ⟨u2, e2⟩ := R0.out.cell (o := 2) (by decide)
  obtain ⟨u3, e3⟩ := R0.out.cell (o := 3) (by decide)
  obtain ⟨u4, e4⟩ := R0.out.cell (o := 4) (by decide)
  have z0 := R0.out.frozen
  go_wp2_with (first | (go_at_call 37; go_must (refine (CC.out _).mono ?_; rintro e w3 ⟨rfl, hw3⟩; obtain rfl := hw3.symm)))
  refine bodyPost_ret (v := .tuple #[.agg #[.int .i64 0, .int .i64 0, .string ⟨#[]⟩, nilS, nilS], .int .i64 4]) (by simp [results, Tryz.results11, go_sem, e0, e1, e2, e3, e4]) rfl ⟨rfl, ?_⟩
  repeat (first | exact HB2.out | (refine vset_bel ?_ (by simp)))
set_option maxRecDepth 100000 in
set_option maxHeartbeats 4000000 in
theorem rnB8s (s b D : ByteArray) (sv : Int) (w : World) (CU : Hid (∀ X, Calls Tryz.prog 36 #[.string s] X fun e w' => e = .returned (.tuple #[.string b, .int .u8 sv]) ∧ Below X.heap.size X w')) (CC : Hid (∀ X, Calls Tryz.prog 37 #[.string (b.extract 2 b.size), .int .i64 8] X fun e w' => e = .returned (.tuple #[.string D, .bool true]) ∧ w' = X)) 
    (q1 : (b.toList == [105, 110, 102]) = false) (q2 : (b.toList == [110, 97, 110]) = false) (h2 : 2 < b.size) (h0 : b[0].toNat = 48) (h1 : b[1].toNat = 111) (hsv : ¬ sv = 0) :
    Calls Tryz.prog 11 #[.string s] w fun e w' => e = .returned (.tuple #[.agg #[.int .i64 0, .int .i64 0, .string ⟨#[]⟩, nilS, nilS], .int .i64 4]) ∧ Below w.heap.size w w' := by
  have g0 : ((b[0].toNat : Int) == 48) = true := by rw [h0]; rfl
  have k120 : ((b[1].toNat : Int) == 120) = false := by rw [h1]; rfl
  have k111 : ((b[1].toNat : Int) == 111) = true := by rw [h1]; rfl
  have k98 : ((b[1].toNat : Int) == 98) = false := by rw [h1]; rfl
  have h2z : (2 : Int) < (b.size : Int) := by omega
  have h3z : 2 ≤ b.size := by omega
  have gs : (sv != 0) = true := by rw [bne_iff_ne]; exact hsv
  clear h0 h1 hsv
  go_enter Tryz.func11, Tryz.ntmps11
  go_wp2_with fail
  go_at_call 36
  refine (CU.out _).mono ?_
  rintro e w2 ⟨rfl, hb2⟩
  have R0 := hid (box_row hb2)
  have HB2 := hid (vonto (valloc_bel (Below.refl w.heap.size w) _) hb2)
  clear hb2
  obtain ⟨u0, e0⟩ := R0.out.cell (o := 0) (by decide)
  obtain ⟨u1, e1⟩ := R0.out.cell (o := 1) (by decide)
  obtain ⟨u2, e2⟩ := R0.out.cell (o := 2) (by decide)
  obtain ⟨u3, e3⟩ := R0.out.cell (o := 3) (by decide)
  obtain ⟨u4, e4⟩ := R0.out.cell (o := 4) (by decide)
  have z0 := R0.out.frozen
  go_wp2_with (first | (go_at_call 37; go_must (refine (CC.out _).mono ?_; rintro e w3 ⟨rfl, hw3⟩; obtain rfl := hw3.symm)))
  refine bodyPost_ret (v := .tuple #[.agg #[.int .i64 0, .int .i64 0, .string ⟨#[]⟩, nilS, nilS], .int .i64 4]) (by simp [results, Tryz.results11, go_sem, e0, e1, e2, e3, e4]) rfl ⟨rfl, ?_⟩
  repeat (first | exact HB2.out | (refine vset_bel ?_ (by simp)))
set_option maxRecDepth 100000 in
set_option maxHeartbeats 4000000 in
theorem rnB8r (s b D : ByteArray) (sv : Int) (N : Int) (w : World) (CU : Hid (∀ X, Calls Tryz.prog 36 #[.string s] X fun e w' => e = .returned (.tuple #[.string b, .int .u8 sv]) ∧ Below X.heap.size X w')) (CC : Hid (∀ X, Calls Tryz.prog 37 #[.string (b.extract 2 b.size), .int .i64 8] X fun e w' => e = .returned (.tuple #[.string D, .bool true]) ∧ w' = X)) (CB : Hid (∀ X, Calls Tryz.prog 38 #[.string D, .int .i64 8] X fun e w' => e = .returned (.tuple #[.int .i64 N, .bool false]) ∧ w' = X))
    (q1 : (b.toList == [105, 110, 102]) = false) (q2 : (b.toList == [110, 97, 110]) = false) (h2 : 2 < b.size) (h0 : b[0].toNat = 48) (h1 : b[1].toNat = 111) (hsv : sv = 0) :
    Calls Tryz.prog 11 #[.string s] w fun e w' => e = .returned (.tuple #[.agg #[.int .i64 0, .int .i64 0, .string ⟨#[]⟩, nilS, nilS], .int .i64 6]) ∧ Below w.heap.size w w' := by
  have g0 : ((b[0].toNat : Int) == 48) = true := by rw [h0]; rfl
  have k120 : ((b[1].toNat : Int) == 120) = false := by rw [h1]; rfl
  have k111 : ((b[1].toNat : Int) == 111) = true := by rw [h1]; rfl
  have k98 : ((b[1].toNat : Int) == 98) = false := by rw [h1]; rfl
  have h2z : (2 : Int) < (b.size : Int) := by omega
  have h3z : 2 ≤ b.size := by omega
  have gs : (sv != 0) = false := by rw [hsv]; rfl
  clear h0 h1 hsv
  go_enter Tryz.func11, Tryz.ntmps11
  go_wp2_with fail
  go_at_call 36
  refine (CU.out _).mono ?_
  rintro e w2 ⟨rfl, hb2⟩
  have R0 := hid (box_row hb2)
  have HB2 := hid (vonto (valloc_bel (Below.refl w.heap.size w) _) hb2)
  clear hb2
  obtain ⟨u0, e0⟩ := R0.out.cell (o := 0) (by decide)
  obtain ⟨u1, e1⟩ := R0.out.cell (o := 1) (by decide)
  obtain ⟨u2, e2⟩ := R0.out.cell (o := 2) (by decide)
  obtain ⟨u3, e3⟩ := R0.out.cell (o := 3) (by decide)
  obtain ⟨u4, e4⟩ := R0.out.cell (o := 4) (by decide)
  have z0 := R0.out.frozen
  go_wp2_with (first | (go_at_call 37; go_must (refine (CC.out _).mono ?_; rintro e w3 ⟨rfl, hw3⟩; obtain rfl := hw3.symm)) | (go_at_call 38; go_must (refine (CB.out _).mono ?_; rintro e w4 ⟨rfl, hw4⟩; obtain rfl := hw4.symm)))
  refine bodyPost_ret (v := .tuple #[.agg #[.int .i64 0, .int .i64 0, .string ⟨#[]⟩, nilS, nilS], .int .i64 6]) (by simp [results, Tryz.results11, go_sem, e0, e1, e2, e3, e4]) rfl ⟨rfl, ?_⟩
  repeat (first | exact HB2.out | (refine vset_bel ?_ (by simp)))
set_option maxRecDepth 100000 in
set_option maxHeartbeats 4000000 in
theorem rnB8f (s b D : ByteArray) (sv : Int) (N : Int) (w : World) (CU : Hid (∀ X, Calls Tryz.prog 36 #[.string s] X fun e w' => e = .returned (.tuple #[.string b, .int .u8 sv]) ∧ Below X.heap.size X w')) (CC : Hid (∀ X, Calls Tryz.prog 37 #[.string (b.extract 2 b.size), .int .i64 8] X fun e w' => e = .returned (.tuple #[.string D, .bool true]) ∧ w' = X)) (CB : Hid (∀ X, Calls Tryz.prog 38 #[.string D, .int .i64 8] X fun e w' => e = .returned (.tuple #[.int .i64 N, .bool true]) ∧ w' = X))
    (q1 : (b.toList == [105, 110, 102]) = false) (q2 : (b.toList == [110, 97, 110]) = false) (h2 : 2 < b.size) (h0 : b[0].toNat = 48) (h1 : b[1].toNat = 111) (hsv : sv = 0) :
    Calls Tryz.prog 11 #[.string s] w fun e w' => e = .returned (.tuple #[.agg #[.int .i64 2, .int .i64 N, .string ⟨#[]⟩, nilS, nilS], .int .i64 0]) ∧ Below w.heap.size w w' := by
  have g0 : ((b[0].toNat : Int) == 48) = true := by rw [h0]; rfl
  have k120 : ((b[1].toNat : Int) == 120) = false := by rw [h1]; rfl
  have k111 : ((b[1].toNat : Int) == 111) = true := by rw [h1]; rfl
  have k98 : ((b[1].toNat : Int) == 98) = false := by rw [h1]; rfl
  have h2z : (2 : Int) < (b.size : Int) := by omega
  have h3z : 2 ≤ b.size := by omega
  have gs : (sv != 0) = false := by rw [hsv]; rfl
  clear h0 h1 hsv
  go_enter Tryz.func11, Tryz.ntmps11
  go_wp2_with fail
  go_at_call 36
  refine (CU.out _).mono ?_
  rintro e w2 ⟨rfl, hb2⟩
  have R0 := hid (box_row hb2)
  have HB2 := hid (vonto (valloc_bel (Below.refl w.heap.size w) _) hb2)
  clear hb2
  obtain ⟨u0, e0⟩ := R0.out.cell (o := 0) (by decide)
  obtain ⟨u1, e1⟩ := R0.out.cell (o := 1) (by decide)
  obtain ⟨u2, e2⟩ := R0.out.cell (o := 2) (by decide)
  obtain ⟨u3, e3⟩ := R0.out.cell (o := 3) (by decide)
  obtain ⟨u4, e4⟩ := R0.out.cell (o := 4) (by decide)
  have z0 := R0.out.frozen
  go_wp2_with (first | (go_at_call 37; go_must (refine (CC.out _).mono ?_; rintro e w3 ⟨rfl, hw3⟩; obtain rfl := hw3.symm)) | (go_at_call 38; go_must (refine (CB.out _).mono ?_; rintro e w4 ⟨rfl, hw4⟩; obtain rfl := hw4.symm)))
  refine bodyPost_ret (v := .tuple #[.agg #[.int .i64 2, .int .i64 N, .string ⟨#[]⟩, nilS, nilS], .int .i64 0]) (by simp [results, Tryz.results11, go_sem, e0, e1, e2, e3, e4]) rfl ⟨rfl, ?_⟩
  repeat (first | exact HB2.out | (refine vset_bel ?_ (by simp)))
set_option maxRecDepth 100000 in
set_option maxHeartbeats 4000000 in
theorem rnB2n (s b D : ByteArray) (sv : Int) (w : World) (CU : Hid (∀ X, Calls Tryz.prog 36 #[.string s] X fun e w' => e = .returned (.tuple #[.string b, .int .u8 sv]) ∧ Below X.heap.size X w')) (CC : Hid (∀ X, Calls Tryz.prog 37 #[.string (b.extract 2 b.size), .int .i64 2] X fun e w' => e = .returned (.tuple #[.string D, .bool false]) ∧ w' = X)) 
    (q1 : (b.toList == [105, 110, 102]) = false) (q2 : (b.toList == [110, 97, 110]) = false) (h2 : 2 < b.size) (h0 : b[0].toNat = 48) (h1 : b[1].toNat = 98)  :
    Calls Tryz.prog 11 #[.string s] w fun e w' => e = .returned (.tuple #[.agg #[.int .i64 0, .int .i64 0, .string ⟨#[]⟩, nilS, nilS], .int .i64 4]) ∧ Below w.heap.size w w' := by
  have g0 : ((b[0].toNat : Int) == 48) = true := by rw [h0]; rfl
  have k120 : ((b[1].toNat : Int) == 120) = false := by rw [h1]; rfl
  have k111 : ((b[1].toNat : Int) == 111) = false := by rw [h1]; rfl
  have k98 : ((b[1].toNat : Int) == 98) = true := by rw [h1]; rfl
  have h2z : (2 : Int) < (b.size : Int) := by omega
  have h3z : 2 ≤ b.size := by omega
  clear h0 h1
  go_enter Tryz.func11, Tryz.ntmps11
  go_wp2_with fail
  go_at_call 36
  refine (CU.out _).mono ?_
  rintro e w2 ⟨rfl, hb2⟩
  have R0 := hid (box_row hb2)
  have HB2 := hid (vonto (valloc_bel (Below.refl w.heap.size w) _) hb2)
  clear hb2
  obtain ⟨u0, e0⟩ := R0.out.cell (o := 0) (by decide)
  obtain ⟨u1, e1⟩ := R0.out.cell (o := 1) (by decide)
  obtain ⟨u2, e2⟩ := R0.out.cell (o := 2) (by decide)
  obtain ⟨u3, e3⟩ := R0.out.cell (o := 3) (by decide)
  obtain ⟨u4, e4⟩ := R0.out.cell (o := 4) (by decide)
  have z0 := R0.out.frozen
  go_wp2_with (first | (go_at_call 37; go_must (refine (CC.out _).mono ?_; rintro e w3 ⟨rfl, hw3⟩; obtain rfl := hw3.symm)))
  refine bodyPost_ret (v := .tuple #[.agg #[.int .i64 0, .int .i64 0, .string ⟨#[]⟩, nilS, nilS], .int .i64 4]) (by simp [results, Tryz.results11, go_sem, e0, e1, e2, e3, e4]) rfl ⟨rfl, ?_⟩
  repeat (first | exact HB2.out | (refine vset_bel ?_ (by simp)))
set_option maxRecDepth 100000 in
set_option maxHeartbeats 4000000 in
theorem rnB2s (s b D : ByteArray) (sv : Int) (w : World) (CU : Hid (∀ X, Calls Tryz.prog 36 #[.string s] X fun e w' => e = .returned (.tuple #[.string b, .int .u8 sv]) ∧ Below X.heap.size X w')) (CC : Hid (∀ X, Calls Tryz.prog 37 #[.string (b.extract 2 b.size), .int .i64 2] X fun e w' => e = .returned (.tuple #[.string D, .bool true]) ∧ w' = X)) 
    (q1 : (b.toList == [105, 110, 102]) = false) (q2 : (b.toList == [110, 97, 110]) = false) (h2 : 2 < b.size) (h0 : b[0].toNat = 48) (h1 : b[1].toNat = 98) (hsv : ¬ sv = 0) :
    Calls Tryz.prog 11 #[.string s] w fun e w' => e = .returned (.tuple #[.agg #[.int .i64 0, .int .i64 0, .string ⟨#[]⟩, nilS, nilS], .int .i64 4]) ∧ Below w.heap.size w w' := by
  have g0 : ((b[0].toNat : Int) == 48) = true := by rw [h0]; rfl
  have k120 : ((b[1].toNat : Int) == 120) = false := by rw [h1]; rfl
  have k111 : ((b[1].toNat : Int) == 111) = false := by rw [h1]; rfl
  have k98 : ((b[1].toNat : Int) == 98) = true := by rw [h1]; rfl
  have h2z : (2 : Int) < (b.size : Int) := by omega
  have h3z : 2 ≤ b.size := by omega
  have gs : (sv != 0) = true := by rw [bne_iff_ne]; exact hsv
  clear h0 h1 hsv
  go_enter Tryz.func11, Tryz.ntmps11
  go_wp2_with fail
  go_at_call 36
  refine (CU.out _).mono ?_
  rintro e w2 ⟨rfl, hb2⟩
  have R0 := hid (box_row hb2)
  have HB2 := hid (vonto (valloc_bel (Below.refl w.heap.size w) _) hb2)
  clear hb2
  obtain ⟨u0, e0⟩ := R0.out.cell (o := 0) (by decide)
  obtain ⟨u1, e1⟩ := R0.out.cell (o := 1) (by decide)
  obtain ⟨u2, e2⟩ := R0.out.cell (o := 2) (by decide)
  obtain ⟨u3, e3⟩ := R0.out.cell (o := 3) (by decide)
  obtain ⟨u4, e4⟩ := R0.out.cell (o := 4) (by decide)
  have z0 := R0.out.frozen
  go_wp2_with (first | (go_at_call 37; go_must (refine (CC.out _).mono ?_; rintro e w3 ⟨rfl, hw3⟩; obtain rfl := hw3.symm)))
  refine bodyPost_ret (v := .tuple #[.agg #[.int .i64 0, .int .i64 0, .string ⟨#[]⟩, nilS, nilS], .int .i64 4]) (by simp [results, Tryz.results11, go_sem, e0, e1, e2, e3, e4]) rfl ⟨rfl, ?_⟩
  repeat (first | exact HB2.out | (refine vset_bel ?_ (by simp)))
set_option maxRecDepth 100000 in
set_option maxHeartbeats 4000000 in
theorem rnB2r (s b D : ByteArray) (sv : Int) (N : Int) (w : World) (CU : Hid (∀ X, Calls Tryz.prog 36 #[.string s] X fun e w' => e = .returned (.tuple #[.string b, .int .u8 sv]) ∧ Below X.heap.size X w')) (CC : Hid (∀ X, Calls Tryz.prog 37 #[.string (b.extract 2 b.size), .int .i64 2] X fun e w' => e = .returned (.tuple #[.string D, .bool true]) ∧ w' = X)) (CB : Hid (∀ X, Calls Tryz.prog 38 #[.string D, .int .i64 2] X fun e w' => e = .returned (.tuple #[.int .i64 N, .bool false]) ∧ w' = X))
    (q1 : (b.toList == [105, 110, 102]) = false) (q2 : (b.toList == [110, 97, 110]) = false) (h2 : 2 < b.size) (h0 : b[0].toNat = 48) (h1 : b[1].toNat = 98) (hsv : sv = 0) :
    Calls Tryz.prog 11 #[.string s] w fun e w' => e = .returned (.tuple #[.agg #[.int .i64 0, .int .i64 0, .string ⟨#[]⟩, nilS, nilS], .int .i64 6]) ∧ Below w.heap.size w w' := by
  have g0 : ((b[0].toNat : Int) == 48) = true := by rw [h0]; rfl
  have k120 : ((b[1].toNat : Int) == 120) = false := by rw [h1]; rfl
  have k111 : ((b[1].toNat : Int) == 111) = false := by rw [h1]; rfl
  have k98 : ((b[1].toNat : Int) == 98) = true := by rw [h1]; rfl
  have h2z : (2 : Int) < (b.size : Int) := by omega
  have h3z : 2 ≤ b.size := by omega
  have gs : (sv != 0) = false := by rw [hsv]; rfl
  clear h0 h1 hsv
  go_enter Tryz.func11, Tryz.ntmps11
  go_wp2_with fail
  go_at_call 36
  refine (CU.out _).mono ?_
  rintro e w2 ⟨rfl, hb2⟩
  have R0 := hid (box_row hb2)
  have HB2 := hid (vonto (valloc_bel (Below.refl w.heap.size w) _) hb2)
  clear hb2
  obtain ⟨u0, e0⟩ := R0.out.cell (o := 0) (by decide)
  obtain ⟨u1, e1⟩ := R0.out.cell (o := 1) (by decide)
  obtain ⟨u2, e2⟩ := R0.out.cell (o := 2) (by decide)
  obtain ⟨u3, e3⟩ := R0.out.cell (o := 3) (by decide)
  obtain ⟨u4, e4⟩ := R0.out.cell (o := 4) (by decide)
  have z0 := R0.out.frozen
  go_wp2_with (first | (go_at_call 37; go_must (refine (CC.out _).mono ?_; rintro e w3 ⟨rfl, hw3⟩; obtain rfl := hw3.symm)) | (go_at_call 38; go_must (refine (CB.out _).mono ?_; rintro e w4 ⟨rfl, hw4⟩; obtain rfl := hw4.symm)))
  refine bodyPost_ret (v := .tuple #[.agg #[.int .i64 0, .int .i64 0, .string ⟨#[]⟩, nilS, nilS], .int .i64 6]) (by simp [results, Tryz.results11, go_sem, e0, e1, e2, e3, e4]) rfl ⟨rfl, ?_⟩
  repeat (first | exact HB2.out | (refine vset_bel ?_ (by simp)))
set_option maxRecDepth 100000 in
set_option maxHeartbeats 4000000 in
theorem rnB2f (s b D : ByteArray) (sv : Int) (N : Int) (w : World) (CU : Hid (∀ X, Calls Tryz.prog 36 #[.string s] X fun e w' => e = .returned (.tuple #[.string b, .int .u8 sv]) ∧ Below X.heap.size X w')) (CC : Hid (∀ X, Calls Tryz.prog 37 #[.string (b.extract 2 b.size), .int .i64 2] X fun e w' => e = .returned (.tuple #[.string D, .bool true]) ∧ w' = X)) (CB : Hid (∀ X, Calls Tryz.prog 38 #[.string D, .int .i64 2] X fun e w' => e = .returned (.tuple #[.int .i64 N, .bool true]) ∧ w' = X))
    (q1 : (b.toList == [105, 110, 102]) = false) (q2 : (b.toList == [110, 97, 110]) = false) (h2 : 2 < b.size) (h0 : b[0].toNat = 48) (h1 : b[1].toNat = 98) (hsv : sv = 0) :
    Calls Tryz.prog 11 #[.string s] w fun e w' => e = .returned (.tuple #[.agg #[.int .i64 2, .int .i64 N, .string ⟨#[]⟩, nilS, nilS], .int .i64 0]) ∧ Below w.heap.size w w' := by
  have g0 : ((b[0].toNat : Int) == 48) = true := by rw [h0]; rfl
  have k120 : ((b[1].toNat : Int) == 120) = false := by rw [h1]; rfl
  have k111 : ((b[1].toNat : Int) == 111) = false := by rw [h1]; rfl
  have k98 : ((b[1].toNat : Int) == 98) = true := by rw [h1]; rfl
  have h2z : (2 : Int) < (b.size : Int) := by omega
  have h3z : 2 ≤ b.size := by omega
  have gs : (sv != 0) = false := by rw [hsv]; rfl
  clear h0 h1 hsv
  go_enter Tryz.func11, Tryz.ntmps11
  go_wp2_with fail
  go_at_call 36
  refine (CU.out _).mono ?_
  rintro e w2 ⟨rfl, hb2⟩
  have R0 := hid (box_row hb2)
  have HB2 := hid (vonto (valloc_bel (Below.refl w.heap.size w) _) hb2)
  clear hb2
  obtain ⟨u0, e0⟩ := R0.out.cell (o := 0) (by decide)
  obtain ⟨u1, e1⟩ := R0.out.cell (o := 1) (by decide)
  obtain ⟨u2, e2⟩ := R0.out.cell (o := 2) (by decide)
  obtain ⟨u3, e3⟩ := R0.out.cell (o := 3) (by decide)
  obtain ⟨u4, e4⟩ := R0.out.cell (o := 4) (by decide)
  have z0 := R0.out.frozen
  go_wp2_with (first | (go_at_call 37; go_must (refine (CC.out _).mono ?_; rintro e w3 ⟨rfl, hw3⟩; obtain rfl := hw3.symm)) | (go_at_call 38; go_must (refine (CB.out _).mono ?_; rintro e w4 ⟨rfl, hw4⟩; obtain rfl := hw4.symm)))
  refine bodyPost_ret (v := .tuple #[.agg #[.int .i64 2, .int .i64 N, .string ⟨#[]⟩, nilS, nilS], .int .i64 0]) (by simp [results, Tryz.results11, go_sem, e0, e1, e2, e3, e4]) rfl ⟨rfl, ?_⟩
  repeat (first | exact HB2.out | (refine vset_bel ?_ (by simp)))
end Go.Proofs.YtlapefhnbbcmmaaGreatDoor
