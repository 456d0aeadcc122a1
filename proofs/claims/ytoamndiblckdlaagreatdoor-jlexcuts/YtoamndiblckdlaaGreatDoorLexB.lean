/- The document's own Cut of chapter 7: walked. -/
import Derived.Test.YtoamndiblckdlaaGreatDoorLexA
import Derived.Test.YtoamndiblckdlaaGreatDoorEnds
import Derived.Deep.AppendLies
namespace Go.Proofs.YtoamndiblckdlaaGreatDoor
open Go.RowKit

theorem Tryz.infoWord : (Tryz.prog.info? 38).map (fun i => (i.zero, i.size, i.bytes)) = some (some (.agg #[.int .i64 0, .string ⟨#[]⟩, .int .i64 0]), 3, 32) := by kernel_rfl
/-- a word's cells -/
def wc (x : Wd) : List Value := [.int .i64 (x.kd : Nat), .string (mkS x.tx), .int .i64 (x.at_ : Nat)]
theorem wc_one (x : Wd) : ∀ u ∈ wc x, u.oneCell' = true := by
  intro u hu
  unfold wc at hu
  simp at hu
  rcases hu with rfl | rfl | rfl <;> rfl
theorem lonto {w w1 w2 : World} (h : Below w.heap.size w w1) (g : Below w1.heap.size w1 w2) : Below w.heap.size w w2 := h.trans (g.mono h.size)
theorem lalloc {w a : World} (h : Below w.heap.size w a) (o : Obj) : Below w.heap.size w (a.alloc o) := h.alloc h.size _
/-- the byte's kinds, as the document asks for them -/
theorem in_bl (b : UInt8) : inB [32, 9, 10, 13] b = blB b := by
  unfold inB blB; simp only [List.any_cons, List.any_nil, Bool.or_false]
  rw [Bool.eq_iff_iff]; simp only [Bool.or_eq_true, decide_eq_true_eq]
  simp only [show (32 : UInt8).toNat = 32 from rfl, show (9 : UInt8).toNat = 9 from rfl, show (10 : UInt8).toNat = 10 from rfl, show (13 : UInt8).toNat = 13 from rfl]
  omega
theorem in_sg (b : UInt8) : inB [123, 125, 91, 93, 58, 44] b = sgnB b := by
  unfold inB sgnB; simp only [List.any_cons, List.any_nil, Bool.or_false]
  rw [Bool.eq_iff_iff]; simp only [Bool.or_eq_true, decide_eq_true_eq]
  simp only [show (123 : UInt8).toNat = 123 from rfl, show (125 : UInt8).toNat = 125 from rfl, show (91 : UInt8).toNat = 91 from rfl, show (93 : UInt8).toNat = 93 from rfl, show (58 : UInt8).toNat = 58 from rfl, show (44 : UInt8).toNat = 44 from rfl]
  omega
theorem of256 {f g : UInt8 → Bool} (h : ∀ n : Fin 256, f (UInt8.ofNat n.val) = g (UInt8.ofNat n.val)) (b : UInt8) : f b = g b := by
  have := h ⟨b.toNat, b.toNat_lt⟩
  simpa using this
set_option maxRecDepth 10000 in
theorem in_ns (b : UInt8) : inB [48, 49, 50, 51, 52, 53, 54, 55, 56, 57, 43, 45, 46, 69] b = numS b := by
  exact of256 (by decide +kernel) b
set_option maxRecDepth 10000 in
theorem in_nc (b : UInt8) : inB [48, 49, 50, 51, 52, 53, 54, 55, 56, 57, 43, 45, 46, 101, 69] b = numC b := by
  exact of256 (by decide +kernel) b
set_option maxRecDepth 10000 in
theorem in_lc (b : UInt8) : inB [97, 98, 99, 100, 101, 102, 103, 104, 105, 106, 107, 108, 109, 110, 111, 112, 113, 114, 115, 116, 117, 118, 119, 120, 121, 122] b = lowC b := by
  exact of256 (by decide +kernel) b
theorem rin_bl (b : UInt8) (w : World) : Calls Tryz.prog 18 #[.int .u8 (b.toNat : Int), .string ⟨#[32, 9, 10, 13]⟩] w fun e w' => e = .returned (.bool (blB b)) ∧ w' = w := by
  have := rin_any b ⟨#[32, 9, 10, 13]⟩ w (by decide)
  rw [show (ByteArray.mk #[32, 9, 10, 13]).data.toList = [32, 9, 10, 13] from rfl, in_bl] at this
  exact this
theorem rin_sg (b : UInt8) (w : World) : Calls Tryz.prog 18 #[.int .u8 (b.toNat : Int), .string ⟨#[123, 125, 91, 93, 58, 44]⟩] w fun e w' => e = .returned (.bool (sgnB b)) ∧ w' = w := by
  have := rin_any b ⟨#[123, 125, 91, 93, 58, 44]⟩ w (by decide)
  rw [show (ByteArray.mk #[123, 125, 91, 93, 58, 44]).data.toList = [123, 125, 91, 93, 58, 44] from rfl, in_sg] at this
  exact this
theorem rin_ns (b : UInt8) (w : World) : Calls Tryz.prog 18 #[.int .u8 (b.toNat : Int), .string ⟨#[48, 49, 50, 51, 52, 53, 54, 55, 56, 57, 43, 45, 46, 69]⟩] w fun e w' => e = .returned (.bool (numS b)) ∧ w' = w := by
  have := rin_any b ⟨#[48, 49, 50, 51, 52, 53, 54, 55, 56, 57, 43, 45, 46, 69]⟩ w (by decide)
  rw [show (ByteArray.mk #[48, 49, 50, 51, 52, 53, 54, 55, 56, 57, 43, 45, 46, 69]).data.toList = [48, 49, 50, 51, 52, 53, 54, 55, 56, 57, 43, 45, 46, 69] from rfl, in_ns] at this
  exact this
theorem row_nc (t : ByteArray) (a : Nat) (w : World) (ht : t.size ≤ 1000000) (ha : a ≤ t.size) :
    Calls Tryz.prog 20 #[.string t, .int .i64 (a : Int), .string ⟨#[48, 49, 50, 51, 52, 53, 54, 55, 56, 57, 43, 45, 46, 101, 69]⟩] w fun e w' => e = .returned (.int .i64 (run numC (t.data.toList.drop a) : Nat)) ∧ w' = w := by
  have := row_any t a ⟨#[48, 49, 50, 51, 52, 53, 54, 55, 56, 57, 43, 45, 46, 101, 69]⟩ w ht ha (by decide)
  rw [show (ByteArray.mk #[48, 49, 50, 51, 52, 53, 54, 55, 56, 57, 43, 45, 46, 101, 69]).data.toList = [48, 49, 50, 51, 52, 53, 54, 55, 56, 57, 43, 45, 46, 101, 69] from rfl, show inB [48, 49, 50, 51, 52, 53, 54, 55, 56, 57, 43, 45, 46, 101, 69] = numC from funext in_nc] at this
  exact this
theorem row_lc (t : ByteArray) (a : Nat) (w : World) (ht : t.size ≤ 1000000) (ha : a ≤ t.size) :
    Calls Tryz.prog 20 #[.string t, .int .i64 (a : Int), .string ⟨#[97, 98, 99, 100, 101, 102, 103, 104, 105, 106, 107, 108, 109, 110, 111, 112, 113, 114, 115, 116, 117, 118, 119, 120, 121, 122]⟩] w fun e w' => e = .returned (.int .i64 (run lowC (t.data.toList.drop a) : Nat)) ∧ w' = w := by
  have := row_any t a ⟨#[97, 98, 99, 100, 101, 102, 103, 104, 105, 106, 107, 108, 109, 110, 111, 112, 113, 114, 115, 116, 117, 118, 119, 120, 121, 122]⟩ w ht ha (by decide)
  rw [show (ByteArray.mk #[97, 98, 99, 100, 101, 102, 103, 104, 105, 106, 107, 108, 109, 110, 111, 112, 113, 114, 115, 116, 117, 118, 119, 120, 121, 122]).data.toList = [97, 98, 99, 100, 101, 102, 103, 104, 105, 106, 107, 108, 109, 110, 111, 112, 113, 114, 115, 116, 117, 118, 119, 120, 121, 122] from rfl, show inB [97, 98, 99, 100, 101, 102, 103, 104, 105, 106, 107, 108, 109, 110, 111, 112, 113, 114, 115, 116, 117, 118, 119, 120, 121, 122] = lowC from funext in_lc] at this
  exact this
/-- what is asked of the functions that Cut calls -/
structure LexHas where
  valid : ∀ (s : ByteArray) (w : World), s.size ≤ 1000000 → Calls Tryz.prog 17 #[.string s] w fun e w' => e = .returned (.int .i64 (rvI s.data.toList)) ∧ Below w.heap.size w w'
  unq : ∀ (t : ByteArray) (a : Int) (w : World), t.size ≤ 1000000 → Calls Tryz.prog 19 #[.string t, .int .i64 a] w fun e w' => e = .returned (.tuple #[.string (mkS (unqJ t.data.toList a).1), .int .i64 ((unqJ t.data.toList a).2.1 : Nat), .int .i64 (unqJ t.data.toList a).2.2]) ∧ Below w.heap.size w w'
  unqB : ∀ (T : List UInt8) (a : Nat), (unqJ T a).2.2 < 0 → a < (unqJ T a).2.1 ∧ (unqJ T a).2.1 ≤ T.length
  form : ∀ (s : ByteArray) (w : World), s.size ≤ 1000000 → Calls Tryz.prog 12 #[.string s] w fun e w' => e = .returned (.tuple #[.bool (pOk s.data.toList), .bool (pOk s.data.toList && !pwOk (pP s.data.toList))]) ∧ w' = w
end Go.Proofs.YtoamndiblckdlaaGreatDoor
