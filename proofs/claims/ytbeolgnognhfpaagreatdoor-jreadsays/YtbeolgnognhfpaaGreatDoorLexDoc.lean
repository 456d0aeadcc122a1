import Derived.Test.YtbeolgnognhfpaaGreatDoorMathLex
import Derived.Test.YtbeolgnognhfpaaGreatDoorOrders
import Derived.Deep.AppendLies
import Derived.Deep.Onto
/- The document's own in and row of chapter 7: walked. -/
/- The document's own Cut of chapter 7: walked. -/
/- The document's own Cut of chapter 7: its loop. -/
/- The document's own Cut of chapter 7: whole. -/
namespace Go.Proofs.YtbeolgnognhfpaaGreatDoor
open Go.RowKit

/-- is a byte one of these? -/
def inB (l : List UInt8) (b : UInt8) : Bool := l.any (fun x => decide (x.toNat = b.toNat))
theorem inB_at {s : ByteArray} {j : Nat} {b : UInt8} (h : j < s.size) (hb : s[j].toNat = b.toNat) : inB s.data.toList b = true := by
  unfold inB
  rw [List.any_eq_true]
  refine ⟨s[j], ?_, decide_eq_true hb⟩
  have : s.data.toList[j]'(by rw [size_list]; exact h) = s[j] := rfl
  rw [← this]; exact List.getElem_mem _
theorem inB_no {s : ByteArray} {b : UInt8} (h : ∀ k (hk : k < s.size), s[k].toNat ≠ b.toNat) : inB s.data.toList b = false := by
  unfold inB
  rw [List.any_eq_false]
  intro x hx
  obtain ⟨k, hk, rfl⟩ := List.mem_iff_getElem.1 hx
  rw [size_list] at hk
  have := h k hk
  simp only [decide_eq_true_eq]
  exact this
set_option maxRecDepth 100000 in
set_option maxHeartbeats 1000000 in
theorem rin_any (b : UInt8) (s : ByteArray) (w : World) (hs : s.size ≤ 1000) :
    Calls Tryz.prog 79 #[.int .u8 (b.toNat : Int), .string s] w fun e w' => e = .returned (.bool (inB s.data.toList b)) ∧ w' = w := by
  have hb := b.toNat_lt
  have HB := hid (fun j h e => inB_at (s := s) (j := j) (b := b) h e)
  have HN := hid (fun h => inB_no (s := s) (b := b) h)
  obtain ⟨R, hR⟩ : ∃ R, inB s.data.toList b = R := ⟨_, rfl⟩
  rw [hR] at HB HN ⊢
  clear hR
  obtain ⟨n, hn⟩ : ∃ n, b.toNat = n := ⟨_, rfl⟩
  rw [hn] at HB HN hb ⊢
  clear hn
  go_enter Tryz.func79, Tryz.ntmps79
  go_wp2_with fail
  go_loop [5] (fun i => ∃ j : Nat, j ≤ s.size ∧ i = .int .i64 j ∧ Hid (∀ k (hk : k < s.size), k < j → s[k].toNat ≠ n)) (fun i => s.size - (intOf i).toNat)
  case atStart => exact ⟨0, Nat.zero_le _, rfl, fun k _ h => absurd h (by omega)⟩
  case round =>
    obtain ⟨j, hj, rfl, HJ⟩ := hrel
    by_cases hlt : j < s.size
    · by_cases he : s[j].toNat = n
      · have HR := hid (HB.out j hlt he)
        have g : ((s[j].toNat : Int) == (n : Int)) = true := by rw [beq_iff_eq]; omega
        clear he
        go_wp2_with fail
        go_ret
        exact ⟨ret_bool HR.out.symm, rfl⟩
      · have g : ((s[j].toNat : Int) == (n : Int)) = false := by rw [beq_eq_false_iff_ne]; omega
        have HJ2 := hid (show ∀ k (hk : k < s.size), k < j + 1 → s[k].toNat ≠ n from fun k hk h => by
          by_cases hkj : k = j
          · subst hkj; exact he
          · exact HJ.out k hk (by omega))
        clear he
        go_wp2_with fail
        go_round
        case rel => exact ⟨j + 1, hlt, val_int (by omega), HJ2.out⟩
        case measure => simp [intOf]; omega
    · have HR := hid (HN.out (fun k hk => HJ.out k hk (by omega)))
      go_wp2_with fail
      go_ret
      exact ⟨ret_bool HR.out.symm, rfl⟩
theorem run_le (p : UInt8 → Bool) (l : List UInt8) : run p l ≤ l.length := by unfold run; exact (List.takeWhile_sublist p).length_le
theorem run_is {p : UInt8 → Bool} : ∀ {l : List UInt8} (n : Nat), n ≤ l.length → (∀ k (h : k < l.length), k < n → p l[k] = true) → (∀ h : n < l.length, p l[n] = false) → run p l = n
  | [], n, hn, _, _ => by simp at hn; subst hn; rfl
  | a :: l, 0, _, _, h => by
    have := h (by simp)
    unfold run; rw [List.takeWhile_cons, if_neg (by simpa using this)]; rfl
  | a :: l, n + 1, hn, hk, h => by
    have h0 := hk 0 (by simp) (by omega)
    have := run_is (p := p) (l := l) n (by simpa using hn) (fun k hk1 hk2 => by have := hk (k + 1) (by simpa using hk1) (by omega); simpa using this) (fun h' => by have := h (by simpa using h'); simpa using this)
    unfold run at this ⊢
    rw [List.takeWhile_cons, if_pos (by simpa using h0), List.length_cons, this]
set_option maxRecDepth 100000 in
set_option maxHeartbeats 1000000 in
theorem row_any (t : ByteArray) (a : Nat) (s : ByteArray) (w : World) (ht : t.size ≤ 1000000) (ha : a ≤ t.size) (hs : s.size ≤ 1000) :
    Calls Tryz.prog 81 #[.string t, .int .i64 (a : Int), .string s] w fun e w' => e = .returned (.int .i64 (run (inB s.data.toList) (t.data.toList.drop a) : Nat)) ∧ w' = w := by
  have HC := hid (fun (b : UInt8) X => rin_any b s X hs)
  have HR : Hid (∀ n, a + n ≤ t.size → (∀ k (h : k < t.size), a ≤ k → k < a + n → inB s.data.toList t[k] = true) → (∀ h : a + n < t.size, inB s.data.toList t[a + n] = false) → run (inB s.data.toList) (t.data.toList.drop a) = n) := fun n h1 h2 h3 => by
    refine run_is n (by rw [List.length_drop, size_list]; omega) (fun k hk hkn => ?_) (fun h => ?_)
    · have hk2 : a + k < t.size := by rw [List.length_drop, size_list] at hk; omega
      have := h2 (a + k) hk2 (by omega) (by omega)
      rw [List.getElem_drop]; exact this
    · have hk2 : a + n < t.size := by rw [List.length_drop, size_list] at h; omega
      rw [List.getElem_drop]; exact h3 hk2
  obtain ⟨p, hp⟩ : ∃ p, inB s.data.toList = p := ⟨_, rfl⟩
  obtain ⟨R, hRR⟩ : ∃ R, run (inB s.data.toList) (t.data.toList.drop a) = R := ⟨_, rfl⟩
  rw [hRR] at HR ⊢
  simp only [hp] at HC HR
  clear hRR hp
  go_enter Tryz.func81, Tryz.ntmps81
  go_wp2_with fail
  go_loop [7] (fun i => ∃ j : Nat, a + j ≤ t.size ∧ i = .int .i64 j ∧ Hid (∀ k (h : k < t.size), a ≤ k → k < a + j → p t[k] = true)) (fun i => t.size - (intOf i).toNat)
  case atStart => exact ⟨0, by omega, rfl, fun k _ h1 h2 => absurd h2 (by omega)⟩
  case round =>
    obtain ⟨j, hj, rfl, HJ⟩ := hrel
    by_cases hlt : a + j < t.size
    · have hb := t[a + j].toNat_lt
      have CC := hid (HC.out t[a + j])
      cases hpb : p t[a + j] with
      | true =>
        have HJ2 := hid (show ∀ k (h : k < t.size), a ≤ k → k < a + (j + 1) → p t[k] = true from fun k hk h1 h2 => by
          by_cases hkj : k = a + j
          · subst hkj; exact hpb
          · exact HJ.out k hk h1 (by omega))
        rw [hpb] at CC
        clear hpb
        go_wp2_with (go_at_call 79; go_must (refine (CC.out _).mono ?_; rintro e w1 ⟨rfl, rfl⟩))
        go_round
        case rel => exact ⟨j + 1, by omega, val_int (by omega), HJ2.out⟩
        case measure => simp [intOf]; omega
      | false =>
        have HE := hid (HR.out j hj HJ.out (fun _ => hpb))
        rw [hpb] at CC
        clear hpb
        go_wp2_with (go_at_call 79; go_must (refine (CC.out _).mono ?_; rintro e w1 ⟨rfl, rfl⟩))
        go_ret
        exact ⟨ret_int (by rw [HE.out]), rfl⟩
    · have HE := hid (HR.out j hj HJ.out (fun h => absurd h hlt))
      go_wp2_with fail
      go_ret
      exact ⟨ret_int (by rw [HE.out]), rfl⟩
end Go.Proofs.YtbeolgnognhfpaaGreatDoor
namespace Go.Proofs.YtbeolgnognhfpaaGreatDoor
open Go.RowKit

theorem Tryz.infoWord : (Tryz.prog.info? 89).map (fun i => (i.zero, i.size, i.bytes)) = some (some (.agg #[.int .i64 0, .string ⟨#[]⟩, .int .i64 0]), 3, 32) := by kernel_rfl
/-- a word's cells -/
def wc (x : Wd) : List Value := [.int .i64 (x.kd : Nat), .string (mkS x.tx), .int .i64 (x.at_ : Nat)]
theorem wc_one (x : Wd) : ∀ u ∈ wc x, u.oneCell' = true := by
  intro u hu
  unfold wc at hu
  simp at hu
  rcases hu with rfl | rfl | rfl <;> rfl
/-- the byte's kinds, as the document asks for them -/
theorem in_bl (b : UInt8) : inB [32, 9, 10, 13] b = blB b := by
  unfold inB blB; simp only [List.any_cons, List.any_nil, Bool.or_false]
  rw [Bool.eq_iff_iff]; simp only [Bool.or_eq_true, decide_eq_true_eq]
  simp only [show (32 : UInt8).toNat = 32 from rfl, show (9 : UInt8).toNat = 9 from rfl, show (10 : UInt8).toNat = 10 from rfl, show (13 : UInt8).toNat = 13 from rfl]
  omega
theorem in_sg (b : UInt8) : inB [123, 125, 91, 93, 58, 44] b = sgnB b := by
  unfold inB sgnB; simp only [List.any_cons, List.any_nil, Bool.or_false]
  rw [Bool.eq_iff_iff]; simp only [Bool.or_eq_true, decide_eq_true_eq]
  simp only [show (123 : UInt8).toNat = 123 from rfl, show (125 : UInt8).toNat = 125 from rfl, show (91 : UInt8).toNat = 91 from rfl, show (93 : UInt8).toNat = 93 from rfl, show (58 : UInt8).toNat = 58 from rfl, show (44 : UInt8).toNat = 44 from rfl]
  omega
theorem of256 {f g : UInt8 → Bool} (h : ∀ n : Fin 256, f (UInt8.ofNat n.val) = g (UInt8.ofNat n.val)) (b : UInt8) : f b = g b := by
  have := h ⟨b.toNat, b.toNat_lt⟩
  simpa using this
set_option maxRecDepth 10000 in
theorem in_ns (b : UInt8) : inB [48, 49, 50, 51, 52, 53, 54, 55, 56, 57, 43, 45, 46, 69] b = numS b := by
  exact of256 (by decide +kernel) b
set_option maxRecDepth 10000 in
theorem in_nc (b : UInt8) : inB [48, 49, 50, 51, 52, 53, 54, 55, 56, 57, 43, 45, 46, 101, 69] b = numC b := by
  exact of256 (by decide +kernel) b
set_option maxRecDepth 10000 in
theorem in_lc (b : UInt8) : inB [97, 98, 99, 100, 101, 102, 103, 104, 105, 106, 107, 108, 109, 110, 111, 112, 113, 114, 115, 116, 117, 118, 119, 120, 121, 122] b = lowC b := by
  exact of256 (by decide +kernel) b
theorem rin_bl (b : UInt8) (w : World) : Calls Tryz.prog 79 #[.int .u8 (b.toNat : Int), .string ⟨#[32, 9, 10, 13]⟩] w fun e w' => e = .returned (.bool (blB b)) ∧ w' = w := by
  have := rin_any b ⟨#[32, 9, 10, 13]⟩ w (by decide)
  rw [show (ByteArray.mk #[32, 9, 10, 13]).data.toList = [32, 9, 10, 13] from rfl, in_bl] at this
  exact this
theorem rin_sg (b : UInt8) (w : World) : Calls Tryz.prog 79 #[.int .u8 (b.toNat : Int), .string ⟨#[123, 125, 91, 93, 58, 44]⟩] w fun e w' => e = .returned (.bool (sgnB b)) ∧ w' = w := by
  have := rin_any b ⟨#[123, 125, 91, 93, 58, 44]⟩ w (by decide)
  rw [show (ByteArray.mk #[123, 125, 91, 93, 58, 44]).data.toList = [123, 125, 91, 93, 58, 44] from rfl, in_sg] at this
  exact this
theorem rin_ns (b : UInt8) (w : World) : Calls Tryz.prog 79 #[.int .u8 (b.toNat : Int), .string ⟨#[48, 49, 50, 51, 52, 53, 54, 55, 56, 57, 43, 45, 46, 69]⟩] w fun e w' => e = .returned (.bool (numS b)) ∧ w' = w := by
  have := rin_any b ⟨#[48, 49, 50, 51, 52, 53, 54, 55, 56, 57, 43, 45, 46, 69]⟩ w (by decide)
  rw [show (ByteArray.mk #[48, 49, 50, 51, 52, 53, 54, 55, 56, 57, 43, 45, 46, 69]).data.toList = [48, 49, 50, 51, 52, 53, 54, 55, 56, 57, 43, 45, 46, 69] from rfl, in_ns] at this
  exact this
theorem row_nc (t : ByteArray) (a : Nat) (w : World) (ht : t.size ≤ 1000000) (ha : a ≤ t.size) :
    Calls Tryz.prog 81 #[.string t, .int .i64 (a : Int), .string ⟨#[48, 49, 50, 51, 52, 53, 54, 55, 56, 57, 43, 45, 46, 101, 69]⟩] w fun e w' => e = .returned (.int .i64 (run numC (t.data.toList.drop a) : Nat)) ∧ w' = w := by
  have := row_any t a ⟨#[48, 49, 50, 51, 52, 53, 54, 55, 56, 57, 43, 45, 46, 101, 69]⟩ w ht ha (by decide)
  rw [show (ByteArray.mk #[48, 49, 50, 51, 52, 53, 54, 55, 56, 57, 43, 45, 46, 101, 69]).data.toList = [48, 49, 50, 51, 52, 53, 54, 55, 56, 57, 43, 45, 46, 101, 69] from rfl, show inB [48, 49, 50, 51, 52, 53, 54, 55, 56, 57, 43, 45, 46, 101, 69] = numC from funext in_nc] at this
  exact this
theorem row_lc (t : ByteArray) (a : Nat) (w : World) (ht : t.size ≤ 1000000) (ha : a ≤ t.size) :
    Calls Tryz.prog 81 #[.string t, .int .i64 (a : Int), .string ⟨#[97, 98, 99, 100, 101, 102, 103, 104, 105, 106, 107, 108, 109, 110, 111, 112, 113, 114, 115, 116, 117, 118, 119, 120, 121, 122]⟩] w fun e w' => e = .returned (.int .i64 (run lowC (t.data.toList.drop a) : Nat)) ∧ w' = w := by
  have := row_any t a ⟨#[97, 98, 99, 100, 101, 102, 103, 104, 105, 106, 107, 108, 109, 110, 111, 112, 113, 114, 115, 116, 117, 118, 119, 120, 121, 122]⟩ w ht ha (by decide)
  rw [show (ByteArray.mk #[97, 98, 99, 100, 101, 102, 103, 104, 105, 106, 107, 108, 109, 110, 111, 112, 113, 114, 115, 116, 117, 118, 119, 120, 121, 122]).data.toList = [97, 98, 99, 100, 101, 102, 103, 104, 105, 106, 107, 108, 109, 110, 111, 112, 113, 114, 115, 116, 117, 118, 119, 120, 121, 122] from rfl, show inB [97, 98, 99, 100, 101, 102, 103, 104, 105, 106, 107, 108, 109, 110, 111, 112, 113, 114, 115, 116, 117, 118, 119, 120, 121, 122] = lowC from funext in_lc] at this
  exact this
/-- what is asked of the functions that Cut calls -/
structure LexHas where
  valid : ∀ (s : ByteArray) (w : World), s.size ≤ 1000000 → Calls Tryz.prog 35 #[.string s] w fun e w' => e = .returned (.int .i64 (rvI s.data.toList)) ∧ Below w.heap.size w w'
  unq : ∀ (t : ByteArray) (a : Int) (w : World), t.size ≤ 1000000 → Calls Tryz.prog 80 #[.string t, .int .i64 a] w fun e w' => e = .returned (.tuple #[.string (mkS (unqJ t.data.toList a).1), .int .i64 ((unqJ t.data.toList a).2.1 : Nat), .int .i64 (unqJ t.data.toList a).2.2]) ∧ Below w.heap.size w w'
  unqB : ∀ (T : List UInt8) (a : Nat), (unqJ T a).2.2 < 0 → a < (unqJ T a).2.1 ∧ (unqJ T a).2.1 ≤ T.length
  form : ∀ (s : ByteArray) (w : World), s.size ≤ 1000000 → Calls Tryz.prog 45 #[.string s] w fun e w' => e = .returned (.tuple #[.bool (pOk s.data.toList), .bool (pOk s.data.toList && !pwOk (pP s.data.toList))]) ∧ w' = w
end Go.Proofs.YtbeolgnognhfpaaGreatDoor
namespace Go.Proofs.YtbeolgnognhfpaaGreatDoor
open Go.RowKit

theorem lw_bl {T : List UInt8} {i : Nat} {b : UInt8} (hT : T[i]? = some b) (h : blB b = true) : lw T i = ⟨9, [], i + 1, 0, 0⟩ := by
  unfold lw; rw [hT]; simp only [h, if_true]
theorem lw_sg {T : List UInt8} {i : Nat} {b : UInt8} (hT : T[i]? = some b) (h : blB b = false) (h2 : sgnB b = true) : lw T i = ⟨1, [b], i + 1, 0, 0⟩ := by
  unfold lw; rw [hT]; simp only [h, h2, if_true, Bool.false_eq_true, if_false]
theorem lw_qt {T : List UInt8} {i : Nat} {b : UInt8} (hT : T[i]? = some b) (h : blB b = false) (h2 : sgnB b = false) (h3 : b.toNat = 34) : lw T i = lwS T i := by
  unfold lw; rw [hT]; simp only [h, h2, h3, if_true, Bool.false_eq_true, if_false]
theorem lw_nm {T : List UInt8} {i : Nat} {b : UInt8} (hT : T[i]? = some b) (h : blB b = false) (h2 : sgnB b = false) (h3 : b.toNat ≠ 34) (h4 : numS b = true) : lw T i = lwN T i := by
  unfold lw; rw [hT]; simp only [h, h2, h3, h4, if_true, Bool.false_eq_true, if_false]
theorem lw_lt {T : List UInt8} {i : Nat} {b : UInt8} (hT : T[i]? = some b) (h : blB b = false) (h2 : sgnB b = false) (h3 : b.toNat ≠ 34) (h4 : numS b = false) : lw T i = lwL T i := by
  unfold lw; rw [hT]; simp only [h, h2, h3, h4, Bool.false_eq_true, if_false]
theorem list_at (t : ByteArray) (i : Nat) (h : i < t.size) : t.data.toList[i]? = some t[i] := by
  rw [List.getElem?_eq_getElem (by rw [size_list]; exact h)]; rfl
theorem Tryz.madeW (w : World) : (Instr.makeSlice 83 (.int .i64 0) (.int .i64 0)).run Tryz.prog w = .ok (.slice (some ⟨w.heap.size, 0, none⟩) 0 0) (w.alloc (.cells #[] 89)) := by
  obtain ⟨i, hi, hz, hs, hb⟩ := info_parts Tryz.infoWord
  have := run_make (P := Tryz.prog) w 83 89 i _ Tryz.underlying83 hi hz .i64 .i64 0 0 (by omega) (Int.le_refl _) (by rw [hb]; omega) (by omega)
  rw [hs, show (0 : Int).toNat * 3 = 0 from rfl, show ∀ z : Array Value, madeCells z 0 = #[] from fun z => by simp [madeCells]] at this
  exact this
theorem Tryz.madeW_own (w : World) (base : Nat) (hb : base ≤ w.heap.size) : (w.alloc (.cells #[] 89)).ownsRow base 89 3 (.slice (some ⟨w.heap.size, 0, none⟩) 0 0) 0 [] := by
  obtain ⟨i, hi, hz, hs, hb'⟩ := info_parts Tryz.infoWord
  obtain ⟨w', h1, h2, -⟩ := run_make_own (P := Tryz.prog) w base 83 89 i _ 3 Tryz.underlying83 hi hz hs .i64 .i64 0 (by omega) (Nat.zero_le _) hb
  have h3 := Tryz.madeW w
  have h4 := h1.symm.trans h3
  injection h4 with _ h5
  rw [← h5]; exact h2
/-- the world with the fault's box -/
def Tryz.bxW (w : World) : World := w.alloc (.cells #[.int .i64 0, .int .i64 0] 57)
theorem Tryz.bx_size (w : World) : (Tryz.bxW w).heap.size = w.heap.size + 1 := by unfold Tryz.bxW; simp
theorem Tryz.bx_bel (w : World) : Below w.heap.size w (Tryz.bxW w) := (Below.refl _ _).alloc (Nat.le_refl _) _
theorem Tryz.bx_keeps {w wr : World} (h : Below (Tryz.bxW w).heap.size (Tryz.bxW w) wr) : wr.cell? ⟨w.heap.size, 0, none⟩ = some (.int .i64 0) ∧ wr.cell? ⟨w.heap.size, 1, none⟩ = some (.int .i64 0) ∧ (∀ o, wr.frozen? ⟨w.heap.size, o, none⟩ = false) ∧ w.heap.size < wr.heap.size := by
  have hs := Tryz.bx_size w
  have h0 := h.size
  refine ⟨?_, ?_, fun o => (h.frozen (by rw [hs]; show w.heap.size < _; omega)).trans (by unfold Tryz.bxW; rw [World.frozen?_alloc_at _ _ _ _ rfl]), by omega⟩
  · rw [h.cell (by rw [hs]; show w.heap.size < _; omega)]; exact new_cells w [.int .i64 0, .int .i64 0] 57 0 _ rfl
  · rw [h.cell (by rw [hs]; show w.heap.size < _; omega)]; exact new_cells w [.int .i64 0, .int .i64 0] 57 1 _ rfl
/-- what Cut leaves -/
def Tryz.CutPost (w : World) (R : List Wd × Nat × Nat) (e : Ending) (w' : World) : Prop :=
  ∃ v, e = .returned (.tuple #[v, .agg #[.int .i64 (R.2.1 : Nat), .int .i64 (R.2.2 : Nat)]]) ∧ w'.ownsRow w.heap.size 89 3 v R.1.length (R.1.flatMap wc) ∧ Below w.heap.size w w'
theorem Tryz.cut_bad {w wr : World} {R : List Wd × Nat × Nat} (h : Below (Tryz.bxW w).heap.size (Tryz.bxW w) wr) {e a : Nat} (hR : R = ([], e, a)) {x y : Int} (hx : x = e) (hy : y = a) (u v : Value) :
    Tryz.CutPost w R (.returned (.tuple #[.slice none 0 0, .agg #[.int .i64 x, .int .i64 y]])) ((wr.setCell ⟨w.heap.size, 0, none⟩ u).setCell ⟨w.heap.size, 1, none⟩ v) := by
  subst hR hx hy
  exact ⟨_, rfl, World.ownsRow_nil _ _ _ _, (((Tryz.bx_bel w).trans (h.mono (by rw [Tryz.bx_size]; omega))).setCell (Nat.le_refl _) _).setCell (Nat.le_refl _) _⟩
theorem Tryz.cut_end {w wr : World} {R : List Wd × Nat × Nat} (h : Below (Tryz.bxW w).heap.size (Tryz.bxW w) wr) {acc : List Wd} {x : Wd} (hR : R = (acc ++ [x], 0, 0)) {g n cap : Nat} (ho : wr.ownsRow (w.heap.size + 1) 89 3 (.slice (some ⟨g, 0, none⟩) n cap) (acc.length + 1) (acc.flatMap wc ++ wc x)) (u v : Value) :
    Tryz.CutPost w R (.returned (.tuple #[.slice (some ⟨g, 0, none⟩) n cap, .agg #[.int .i64 0, .int .i64 0]])) ((wr.setCell ⟨w.heap.size, 0, none⟩ u).setCell ⟨w.heap.size, 1, none⟩ v) := by
  subst hR
  refine ⟨_, rfl, ?_, (((Tryz.bx_bel w).trans (h.mono (by rw [Tryz.bx_size]; omega))).setCell (Nat.le_refl _) _).setCell (Nat.le_refl _) _⟩
  have h1 : wr.grownBy ((wr.setCell ⟨w.heap.size, 0, none⟩ u).setCell ⟨w.heap.size, 1, none⟩ v) (some w.heap.size) := by
    refine ⟨rfl, rfl, rfl, by simp, fun k hk hne => ?_⟩
    rw [Below.heap_setCell _ _ _ _ (fun e => hne (by rw [e])), Below.heap_setCell _ _ _ _ (fun e => hne (by rw [e]))]
  have h2 := World.ownsRow.mono (World.ownsRow.kept ho h1 (Or.inr (fun e => by have := ho.lt w.heap.size e; omega))) (base' := w.heap.size) (by omega)
  simpa [List.flatMap_append] using h2
theorem Tryz.bx_onto {w wr w2 : World} (h : Below (Tryz.bxW w).heap.size (Tryz.bxW w) wr) (g : Below wr.heap.size wr w2) : Below (Tryz.bxW w).heap.size (Tryz.bxW w) w2 := h.trans (g.mono h.size)
theorem run_pos {p : UInt8 → Bool} {T : List UInt8} {i : Nat} {b : UInt8} (h : T[i]? = some b) (hp : p b = true) : 0 < run p (T.drop i) := by
  obtain ⟨hi, hb⟩ := List.getElem?_eq_some_iff.1 h
  rw [List.drop_eq_getElem_cons hi, hb]
  unfold run; rw [List.takeWhile_cons, if_pos hp]; simp
theorem num_sc {b : UInt8} (h : numS b = true) : numC b = true := by unfold numC; rw [h]; rfl
/-- a word's cells as they are laid -/
def lc (k : Nat) (s : ByteArray) (i : Nat) : List Value := [.int .i64 (k : Nat), .string s, .int .i64 (i : Nat)]
theorem lc_one (k : Nat) (s : ByteArray) (i : Nat) : ∀ u ∈ lc k s i, u.oneCell' = true := by
  intro u hu
  unfold lc at hu
  simp at hu
  rcases hu with rfl | rfl | rfl <;> rfl
theorem lc_own {w : World} {b : Nat} {ty : TypeId} {v : Value} {acc : List Wd} {k i : Nat} {s : ByteArray} {tx : List UInt8} (h : w.ownsRow b ty 3 v (acc.length + 1) (acc.flatMap wc ++ lc k s i)) (hs : s = mkS tx) : w.ownsRow b ty 3 v (acc ++ [(⟨k, tx, i⟩ : Wd)]).length ((acc ++ [(⟨k, tx, i⟩ : Wd)]).flatMap wc) := by
  subst hs
  simpa [List.flatMap_append, lc, wc] using h
theorem ext_mk (t : ByteArray) (i n : Nat) : t.extract i (i + n) = mkS ((t.data.toList.drop i).take n) := mkS_of _ _ (by simp [Nat.add_sub_cancel_left])
theorem ext_one (t : ByteArray) (i : Nat) (h : i < t.size) : t.extract i (i + 1) = mkS [t[i]] := by
  rw [ext_mk, List.drop_eq_getElem_cons (by rw [size_list]; exact h)]; rfl
theorem Tryz.bx_grown {w wr w9 : World} (h : Below (Tryz.bxW w).heap.size (Tryz.bxW w) wr) {e : TypeId} {v : Value} {n : Nat} {xs : List Value} (ho : wr.ownsRow (w.heap.size + 1) e 3 v n xs) (o : Obj) (hg : (wr.alloc o).grownBy w9 v.ownBlock) : Below (Tryz.bxW w).heap.size (Tryz.bxW w) w9 := by
  have hs := h.size
  refine (h.alloc hs _).grown hg (by simp; omega) (fun q hq => ?_)
  rw [Tryz.bx_size]; exact (ho.lt q hq).1
set_option maxRecDepth 100000 in
set_option maxHeartbeats 4000000 in
theorem Tryz.rcut_in (H : LexHas) (t : ByteArray) (w : World) (ht : t.size ≤ 65536) (hv : rvI t.data.toList < 0) :
    Calls Tryz.prog 53 #[.string t] w (Tryz.CutPost w (cutA t.data.toList)) := by
  have HZ := hid (size_list t)
  have HC := hid (show cutA t.data.toList = lx t.data.toList (t.data.toList.length + 1) 0 [] by unfold cutA; rw [if_neg (by rw [HZ.out]; omega), if_neg (by omega)])
  rw [HC.out]
  obtain ⟨R, hR⟩ : ∃ R, lx t.data.toList (t.data.toList.length + 1) 0 [] = R := ⟨_, rfl⟩
  have HR := hid hR
  rw [hR]
  clear hR HC
  have CV := hid (fun X => H.valid t X (by omega))
  have CB := hid (fun (b : UInt8) X => rin_bl b X)
  obtain ⟨i1, hi', hz0', hz1', hz2'⟩ := info_parts Tryz.infoWord
  obtain ⟨rv, hrv⟩ : ∃ rv, rvI t.data.toList = rv := ⟨_, rfl⟩
  rw [hrv] at CV hv
  clear hrv
  have hmk := Tryz.madeW
  go_enter Tryz.func53, Tryz.ntmps53
  go_wp2_with (go_at_call 35; go_must (refine (CV.out _).mono ?_; rintro e w1 ⟨rfl, hb1⟩))
  have HB1 : Hid (Below (Tryz.bxW w).heap.size (Tryz.bxW w) w1) := hb1
  clear hb1 hmk
  go_loopw [5, 6] (fun v x wr => ∃ (i f : Nat) (acc : List Wd), i ≤ t.size ∧ x = .int .i64 i ∧ Hid (acc.length ≤ i) ∧ Hid (wr.ownsRow (w.heap.size + 1) 89 3 v acc.length (acc.flatMap wc)) ∧ Hid (lx t.data.toList f i acc = R) ∧ Hid (t.data.toList.length < i + f) ∧ Hid (Below (Tryz.bxW w).heap.size (Tryz.bxW w) wr)) (fun _ x _ => t.size - (intOf x).toNat)
  case atStart => exact ⟨0, t.data.toList.length + 1, [], Nat.zero_le _, rfl, Nat.zero_le _, Tryz.madeW_own _ _ (by have := HB1.out.size; rw [Tryz.bx_size] at this; exact this), HR.out, (show _ < _ by omega), HB1.out.alloc HB1.out.size _⟩
  case round =>
    obtain ⟨i, f, acc, hit, rfl, HN, HO, HL, HF, HB⟩ := hrel
    obtain ⟨b0, b1, b2, b3⟩ := Tryz.bx_keeps HB.out
    by_cases hlt : i < t.size
    · have HT := hid (list_at t i hlt)
      have HTL := hid (show i < t.data.toList.length by rw [HZ.out]; exact hlt)
      have hb := t[i].toNat_lt
      cases hbl : blB t[i] with
      | true =>
        have CC := hid (CB.out t[i])
        have HW := hid (lw_bl HT.out hbl)
        obtain ⟨f', h1, h2⟩ := lx_blank (acc := acc) HF.out HTL.out (by rw [HW.out]) (by rw [HW.out]) (by rw [HW.out]; exact Nat.lt_succ_self _)
        rw [HW.out] at h1 h2
        have HN1 := hid h1
        have HN2 := hid h2
        rw [hbl] at CC
        clear hbl h1 h2 b0 b1 b2 b3
        go_wp2_with (go_at_call 79; go_must (refine (CC.out _).mono ?_; rintro e w2 ⟨rfl, rfl⟩))
        go_roundw
        case rel => exact ⟨i + 1, f', acc, hlt, val_int (by omega), Nat.le_succ_of_le HN.out, HO.out, HN1.out.symm.trans HL.out, HN2.out, HB.out⟩
        case measure => simp [intOf]; omega
      | false =>
        have CC := hid (CB.out t[i])
        have CS := hid (fun X => rin_sg t[i] X)
        rw [hbl] at CC
        cases hsg : sgnB t[i] with
        | true =>
          have HW := hid (lw_sg HT.out hbl hsg)
          obtain ⟨f', h1, h2⟩ := lx_word (acc := acc) HF.out HTL.out (by rw [HW.out]) (by rw [HW.out]; show (1 : Nat) ≠ 9; decide) (by rw [HW.out]; exact Nat.lt_succ_self _)
          rw [HW.out] at h1 h2
          have HN1 := hid h1
          have HN2 := hid h2
          rw [hsg] at CS
          have HX := hid (ext_one t i hlt)
          have hN : acc.length ≤ 65536 := Nat.le_trans HN.out (by omega)
          have hws : w.heap.size + 1 ≤ wr.heap.size := b3
          clear hbl hsg h1 h2 b0 b1 b2 b3
          go_wp2_with fail
          go_at_call 79
          refine (CC.out _).mono ?_
          rintro e w2 ⟨rfl, hw⟩
          obtain rfl := hw.symm
          clear hw
          go_wp2_with fail
          go_at_call 79
          refine (CS.out _).mono ?_
          rintro e w2 ⟨rfl, hw⟩
          obtain rfl := hw.symm
          clear hw
          go_wp2_with (at_builtin; go_must (refine wpList_append_lies _ rfl _ _ _ rfl (w.heap.size + 1) 89 i1 (.agg #[.int .i64 0, .string ⟨#[]⟩, .int .i64 0]) 3 32 Tryz.underlying83 hi' hz0' hz1' hz2' rfl (by decide) _ _ _ rfl (HO.out.alloc _) ⟨wr.heap.size, 0, none⟩ 1 1 (lc 1 (t.extract i (i + 1)) i) rfl rfl (new_cells wr _ 89) (lc_one _ _ _) (by decide) (by unfold maxLen; omega) (by omega) (by simp; omega) (wr.heap.size + 1) (by simp) ?_; intro g9 cap9 w9 hown9 hgr9 hat9 hlt9; have HB9 := hid (Tryz.bx_grown HB.out HO.out _ hgr9); have HO9 := hid (lc_own hown9 HX.out); clear hown9 hgr9 hat9 hlt9))
          go_roundw
          case rel => exact ⟨i + 1, f', acc ++ [(⟨1, [t[i]], i⟩ : Wd)], hlt, val_int (by omega), (by show _ ≤ _; rw [List.length_append]; exact Nat.succ_le_succ HN.out), HO9.out, HN1.out.symm.trans HL.out, HN2.out, HB9.out⟩
          case measure => simp [intOf]; omega
        | false =>
          rw [hsg] at CS
          by_cases hqt : t[i].toNat = 34
          · have gq : ((t[i].toNat : Int) == 34) = true := by rw [beq_iff_eq]; omega
            have CU := hid (fun X => H.unq t (i : Int) X (by omega))
            have HQ := hid (H.unqB t.data.toList i)
            have HLS := hid (show lw t.data.toList i = lwS t.data.toList i from lw_qt HT.out hbl hsg hqt)
            unfold lwS at HLS
            obtain ⟨q, hq⟩ : ∃ q, unqJ t.data.toList (i : Int) = q := ⟨_, rfl⟩
            rw [hq] at CU HQ HLS
            clear hq
            obtain ⟨q1, q2, q3⟩ := q
            simp only at CU HQ HLS
            clear hbl hsg hqt b0 b1 b2 b3
            by_cases h0 : 0 ≤ q3
            · have HW := hid (HLS.out.trans (if_pos h0))
              have HE := hid (show R = ([], 4, q3.toNat) by rw [← HL.out, lx_bad HF.out HTL.out (by rw [HW.out]; show (4 : Nat) ≠ 0; decide), HW.out])
              have HT3 := hid (show q3 = ((q3.toNat : Nat) : Int) from (Int.toNat_of_nonneg h0).symm)
              clear HQ HLS HW
              go_wp2_with fail
              go_at_call 79
              refine (CC.out _).mono ?_
              rintro e w2 ⟨rfl, hw⟩
              obtain rfl := hw.symm
              clear hw
              go_wp2_with fail
              go_at_call 79
              refine (CS.out _).mono ?_
              rintro e w2 ⟨rfl, hw⟩
              obtain rfl := hw.symm
              clear hw
              go_wp2_with fail
              go_at_call 80
              refine (CU.out _).mono ?_
              rintro e w2 ⟨rfl, hb2⟩
              have HB2 := hid (Tryz.bx_onto HB.out hb2)
              have HO2 := hid (ownsRow_below HO.out hb2)
              clear hb2
              obtain ⟨b0, b1, b2, b3⟩ := Tryz.bx_keeps HB2.out
              go_wp2_with fail
              refine bodyPost_ret (v := .tuple #[.slice none 0 0, .agg #[.int .i64 4, .int .i64 q3]]) (by simp [results, Tryz.results53, go_sem, b0, b1]) rfl ?_
              exact Tryz.cut_bad HB2.out HE.out rfl HT3.out _ _
            · have h0' : q3 < 0 := by omega
              obtain ⟨hq1, hq2⟩ := HQ.out h0'
              rw [HZ.out] at hq2
              by_cases h4 : 4096 < q1.length
              · have HW := hid (HLS.out.trans ((if_neg h0).trans (if_pos h4)))
                have HE := hid (show R = ([], 2, i) by rw [← HL.out, lx_bad HF.out HTL.out (by rw [HW.out]; show (2 : Nat) ≠ 0; decide), HW.out])
                obtain ⟨m, hm⟩ : ∃ m, mkS q1 = m := ⟨_, rfl⟩
                have hms : 4096 < m.size := by rw [← hm, mkS_size]; exact h4
                rw [hm] at CU
                clear HQ HLS HW hm h4
                go_wp2_with fail
                go_at_call 79
                refine (CC.out _).mono ?_
                rintro e w2 ⟨rfl, hw⟩
                obtain rfl := hw.symm
                clear hw
                go_wp2_with fail
                go_at_call 79
                refine (CS.out _).mono ?_
                rintro e w2 ⟨rfl, hw⟩
                obtain rfl := hw.symm
                clear hw
                go_wp2_with fail
                go_at_call 80
                refine (CU.out _).mono ?_
                rintro e w2 ⟨rfl, hb2⟩
                have HB2 := hid (Tryz.bx_onto HB.out hb2)
                have HO2 := hid (ownsRow_below HO.out hb2)
                clear hb2
                obtain ⟨b0, b1, b2, b3⟩ := Tryz.bx_keeps HB2.out
                go_wp2_with fail
                refine bodyPost_ret (v := .tuple #[.slice none 0 0, .agg #[.int .i64 2, .int .i64 (i : Int)]]) (by simp [results, Tryz.results53, go_sem, b0, b1]) rfl ?_
                exact Tryz.cut_bad HB2.out HE.out rfl rfl _ _
              · have HW := hid (HLS.out.trans ((if_neg h0).trans (if_neg h4)))
                obtain ⟨f', h1, h2⟩ := lx_word (acc := acc) HF.out HTL.out (by rw [HW.out]) (by rw [HW.out]; show (2 : Nat) ≠ 9; decide) (by rw [HW.out]; exact hq1)
                rw [HW.out] at h1 h2
                have HN1 := hid h1
                have HN2 := hid h2
                obtain ⟨m, hm⟩ : ∃ m, mkS q1 = m := ⟨_, rfl⟩
                have hms : ¬ 4096 < m.size := by rw [← hm, mkS_size]; exact h4
                have HX := hid hm.symm
                rw [hm] at CU
                have hN : acc.length ≤ 65536 := Nat.le_trans HN.out (by omega)
                clear HQ HLS HW hm h4 h1 h2
                go_wp2_with fail
                go_at_call 79
                refine (CC.out _).mono ?_
                rintro e w2 ⟨rfl, hw⟩
                obtain rfl := hw.symm
                clear hw
                go_wp2_with fail
                go_at_call 79
                refine (CS.out _).mono ?_
                rintro e w2 ⟨rfl, hw⟩
                obtain rfl := hw.symm
                clear hw
                go_wp2_with fail
                go_at_call 80
                refine (CU.out _).mono ?_
                rintro e w2 ⟨rfl, hb2⟩
                have HB2 := hid (Tryz.bx_onto HB.out hb2)
                have HO2 := hid (ownsRow_below HO.out hb2)
                clear hb2
                obtain ⟨b0, b1, b2, b3⟩ := Tryz.bx_keeps HB2.out
                have hws : w.heap.size + 1 ≤ w2.heap.size := b3
                clear b0 b1 b2 b3
                go_wp2_with (at_builtin; go_must (refine wpList_append_lies _ rfl _ _ _ rfl (w.heap.size + 1) 89 i1 (.agg #[.int .i64 0, .string ⟨#[]⟩, .int .i64 0]) 3 32 Tryz.underlying83 hi' hz0' hz1' hz2' rfl (by decide) _ _ _ rfl (HO2.out.alloc _) ⟨w2.heap.size, 0, none⟩ 1 1 (lc 2 m i) rfl rfl (new_cells w2 _ 89) (lc_one _ _ _) (by decide) (by unfold maxLen; omega) (by omega) (by simp; omega) (w2.heap.size + 1) (by simp) ?_; intro g9 cap9 w9 hown9 hgr9 hat9 hlt9; have HB9 := hid (Tryz.bx_grown HB2.out HO2.out _ hgr9); have HO9 := hid (lc_own hown9 HX.out); clear hown9 hgr9 hat9 hlt9))
                go_roundw
                case rel => exact ⟨q2, f', acc ++ [(⟨2, q1, i⟩ : Wd)], hq2, rfl, (by show _ ≤ _; rw [List.length_append]; exact Nat.le_trans (Nat.succ_le_succ HN.out) hq1), HO9.out, HN1.out.symm.trans HL.out, HN2.out, HB9.out⟩
                case measure => simp [intOf]; omega
          · have gq : ((t[i].toNat : Int) == 34) = false := by rw [beq_eq_false_iff_ne]; omega
            have CN := hid (fun X => rin_ns t[i] X)
            cases hns : numS t[i] with
            | true =>
              have HLS := hid (show lw t.data.toList i = lwN t.data.toList i from lw_nm HT.out hbl hsg hqt hns)
              rw [hns] at CN
              unfold lwN at HLS
              have CR := hid (fun X => row_nc t i X (by omega) (by omega))
              have hn1 : 0 < run numC (t.data.toList.drop i) := run_pos HT.out (num_sc hns)
              have hn2 : i + run numC (t.data.toList.drop i) ≤ t.size := by have := run_le numC (t.data.toList.drop i); rw [List.length_drop, HZ.out] at this; omega
              generalize run numC (t.data.toList.drop i) = n at *
              have CF := hid (fun X => H.form (t.extract i (i + n)) X (by rw [ByteArray.size_extract]; omega))
              have HX := hid (ext_mk t i n)
              rw [HX.out, mkS_list, ← HX.out] at CF
              generalize (t.data.toList.drop i).take n = P at *
              clear hbl hsg hqt hns
              by_cases h4 : 400 < n
              · have HW := hid (HLS.out.trans (if_pos h4))
                have HE := hid (show R = ([], 2, i) by rw [← HL.out, lx_bad HF.out HTL.out (by rw [HW.out]; show (2 : Nat) ≠ 0; decide), HW.out])
                generalize (pOk P && !pwOk (pP P)) = o2 at CF
                generalize pOk P = o1 at CF
                clear HLS HW HX
                go_wp2_with fail
                go_at_call 79
                refine (CC.out _).mono ?_
                rintro e w2 ⟨rfl, hw⟩
                obtain rfl := hw.symm
                clear hw
                go_wp2_with fail
                go_at_call 79
                refine (CS.out _).mono ?_
                rintro e w2 ⟨rfl, hw⟩
                obtain rfl := hw.symm
                clear hw
                go_wp2_with fail
                go_at_call 79
                refine (CN.out _).mono ?_
                rintro e w2 ⟨rfl, hw⟩
                obtain rfl := hw.symm
                clear hw
                go_wp2_with fail
                go_at_call 81
                refine (CR.out _).mono ?_
                rintro e w2 ⟨rfl, hw⟩
                obtain rfl := hw.symm
                clear hw
                go_wp2_with fail
                go_at_call 45
                refine (CF.out _).mono ?_
                rintro e w2 ⟨rfl, hw⟩
                obtain rfl := hw.symm
                clear hw
                go_wp2_with fail
                refine bodyPost_ret (v := .tuple #[.slice none 0 0, .agg #[.int .i64 2, .int .i64 (i : Int)]]) (by simp [results, Tryz.results53, go_sem, b0, b1]) rfl ?_
                exact Tryz.cut_bad HB.out HE.out rfl rfl _ _
              · have HL2 := hid (HLS.out.trans (if_neg h4))
                clear HLS
                cases ho : pOk P with
                | false =>
                  have HW := hid (HL2.out.trans (if_pos ho))
                  have HE := hid (show R = ([], 4, i) by rw [← HL.out, lx_bad HF.out HTL.out (by rw [HW.out]; show (4 : Nat) ≠ 0; decide), HW.out])
                  rw [ho, Bool.false_and] at CF
                  clear HL2 HW HX ho
                  go_wp2_with fail
                  go_at_call 79
                  refine (CC.out _).mono ?_
                  rintro e w2 ⟨rfl, hw⟩
                  obtain rfl := hw.symm
                  clear hw
                  go_wp2_with fail
                  go_at_call 79
                  refine (CS.out _).mono ?_
                  rintro e w2 ⟨rfl, hw⟩
                  obtain rfl := hw.symm
                  clear hw
                  go_wp2_with fail
                  go_at_call 79
                  refine (CN.out _).mono ?_
                  rintro e w2 ⟨rfl, hw⟩
                  obtain rfl := hw.symm
                  clear hw
                  go_wp2_with fail
                  go_at_call 81
                  refine (CR.out _).mono ?_
                  rintro e w2 ⟨rfl, hw⟩
                  obtain rfl := hw.symm
                  clear hw
                  go_wp2_with fail
                  go_at_call 45
                  refine (CF.out _).mono ?_
                  rintro e w2 ⟨rfl, hw⟩
                  obtain rfl := hw.symm
                  clear hw
                  go_wp2_with fail
                  refine bodyPost_ret (v := .tuple #[.slice none 0 0, .agg #[.int .i64 4, .int .i64 (i : Int)]]) (by simp [results, Tryz.results53, go_sem, b0, b1]) rfl ?_
                  exact Tryz.cut_bad HB.out HE.out rfl rfl _ _
                | true =>
                  have HL3 := hid (HL2.out.trans (if_neg (by rw [ho]; decide)))
                  clear HL2
                  rw [ho, Bool.true_and] at CF
                  cases hp : pwOk (pP P) with
                  | false =>
                    have HW := hid (HL3.out.trans (if_pos hp))
                    have HE := hid (show R = ([], 6, i) by rw [← HL.out, lx_bad HF.out HTL.out (by rw [HW.out]; show (6 : Nat) ≠ 0; decide), HW.out])
                    rw [hp, Bool.not_false] at CF
                    clear HL3 HW HX ho hp
                    go_wp2_with fail
                    go_at_call 79
                    refine (CC.out _).mono ?_
                    rintro e w2 ⟨rfl, hw⟩
                    obtain rfl := hw.symm
                    clear hw
                    go_wp2_with fail
                    go_at_call 79
                    refine (CS.out _).mono ?_
                    rintro e w2 ⟨rfl, hw⟩
                    obtain rfl := hw.symm
                    clear hw
                    go_wp2_with fail
                    go_at_call 79
                    refine (CN.out _).mono ?_
                    rintro e w2 ⟨rfl, hw⟩
                    obtain rfl := hw.symm
                    clear hw
                    go_wp2_with fail
                    go_at_call 81
                    refine (CR.out _).mono ?_
                    rintro e w2 ⟨rfl, hw⟩
                    obtain rfl := hw.symm
                    clear hw
                    go_wp2_with fail
                    go_at_call 45
                    refine (CF.out _).mono ?_
                    rintro e w2 ⟨rfl, hw⟩
                    obtain rfl := hw.symm
                    clear hw
                    go_wp2_with fail
                    refine bodyPost_ret (v := .tuple #[.slice none 0 0, .agg #[.int .i64 6, .int .i64 (i : Int)]]) (by simp [results, Tryz.results53, go_sem, b0, b1]) rfl ?_
                    exact Tryz.cut_bad HB.out HE.out rfl rfl _ _
                  | true =>
                    have HW := hid (HL3.out.trans (if_neg (by rw [hp]; decide)))
                    rw [hp, Bool.not_true] at CF
                    obtain ⟨f', h1, h2⟩ := lx_word (acc := acc) HF.out HTL.out (by rw [HW.out]) (by rw [HW.out]; show (3 : Nat) ≠ 9; decide) (by rw [HW.out]; show i < i + n; omega)
                    rw [HW.out] at h1 h2
                    have HN1 := hid h1
                    have HN2 := hid h2
                    have hN : acc.length ≤ 65536 := Nat.le_trans HN.out (by omega)
                    have hws : w.heap.size + 1 ≤ wr.heap.size := b3
                    clear HL3 HW ho hp h1 h2 b0 b1 b2 b3
                    go_wp2_with fail
                    go_at_call 79
                    refine (CC.out _).mono ?_
                    rintro e w2 ⟨rfl, hw⟩
                    obtain rfl := hw.symm
                    clear hw
                    go_wp2_with fail
                    go_at_call 79
                    refine (CS.out _).mono ?_
                    rintro e w2 ⟨rfl, hw⟩
                    obtain rfl := hw.symm
                    clear hw
                    go_wp2_with fail
                    go_at_call 79
                    refine (CN.out _).mono ?_
                    rintro e w2 ⟨rfl, hw⟩
                    obtain rfl := hw.symm
                    clear hw
                    go_wp2_with fail
                    go_at_call 81
                    refine (CR.out _).mono ?_
                    rintro e w2 ⟨rfl, hw⟩
                    obtain rfl := hw.symm
                    clear hw
                    go_wp2_with fail
                    go_at_call 45
                    refine (CF.out _).mono ?_
                    rintro e w2 ⟨rfl, hw⟩
                    obtain rfl := hw.symm
                    clear hw
                    go_wp2_with (at_builtin; go_must (refine wpList_append_lies _ rfl _ _ _ rfl (w.heap.size + 1) 89 i1 (.agg #[.int .i64 0, .string ⟨#[]⟩, .int .i64 0]) 3 32 Tryz.underlying83 hi' hz0' hz1' hz2' rfl (by decide) _ _ _ rfl (HO.out.alloc _) ⟨wr.heap.size, 0, none⟩ 1 1 (lc 3 (t.extract i (i + n)) i) rfl rfl (new_cells wr _ 89) (lc_one _ _ _) (by decide) (by unfold maxLen; omega) (by omega) (by simp; omega) (wr.heap.size + 1) (by simp) ?_; intro g9 cap9 w9 hown9 hgr9 hat9 hlt9; have HB9 := hid (Tryz.bx_grown HB.out HO.out _ hgr9); have HO9 := hid (lc_own hown9 HX.out); clear hown9 hgr9 hat9 hlt9))
                    go_roundw
                    case rel => exact ⟨i + n, f', acc ++ [(⟨3, P, i⟩ : Wd)], hn2, val_int (by omega), (by show _ ≤ _; rw [List.length_append]; exact Nat.add_le_add HN.out hn1), HO9.out, HN1.out.symm.trans HL.out, HN2.out, HB9.out⟩
                    case measure => simp [intOf]; omega
            | false =>
              have HLS := hid (show lw t.data.toList i = lwL t.data.toList i from lw_lt HT.out hbl hsg hqt hns)
              rw [hns] at CN
              unfold lwL at HLS
              have CR := hid (fun X => row_lc t i X (by omega) (by omega))
              have hn2 : i + run lowC (t.data.toList.drop i) ≤ t.size := by have := run_le lowC (t.data.toList.drop i); rw [List.length_drop, HZ.out] at this; omega
              generalize run lowC (t.data.toList.drop i) = n at *
              have HX := hid (ext_mk t i n)
              have HP := hid (show (t.extract i (i + n)).toList = (t.data.toList.drop i).take n by rw [ByteArray.toList_eq, HX.out, mkS_list])
              generalize (t.data.toList.drop i).take n = P at *
              clear hbl hsg hqt hns
              cases hl : litB P with
              | true =>
                have HW := hid (HLS.out.trans (if_pos hl))
                have hn1 : 0 < n := by
                  rcases Nat.eq_zero_or_pos n with h | h
                  · subst h
                    have h5 := HP.out
                    rw [ByteArray.toList_eq] at h5
                    have h6 : P.length = 0 := by rw [← h5, size_list, ByteArray.size_extract]; omega
                    rw [List.eq_nil_of_length_eq_zero h6] at hl
                    exact absurd hl (by decide)
                  · exact h
                obtain ⟨f', h1, h2⟩ := lx_word (acc := acc) HF.out HTL.out (by rw [HW.out]) (by rw [HW.out]; show (4 : Nat) ≠ 9; decide) (by rw [HW.out]; show i < i + n; omega)
                rw [HW.out] at h1 h2
                have HN1 := hid h1
                have HN2 := hid h2
                have hN : acc.length ≤ 65536 := Nat.le_trans HN.out (by omega)
                have hws : w.heap.size + 1 ≤ wr.heap.size := b3
                have hc : (t.extract i (i + n)).toList = [116, 114, 117, 101] ∨ (¬ (t.extract i (i + n)).toList = [116, 114, 117, 101] ∧ (t.extract i (i + n)).toList = [102, 97, 108, 115, 101]) ∨ (¬ (t.extract i (i + n)).toList = [116, 114, 117, 101] ∧ ¬ (t.extract i (i + n)).toList = [102, 97, 108, 115, 101] ∧ (t.extract i (i + n)).toList = [110, 117, 108, 108]) := by
                  rw [HP.out]
                  have h := of_decide_eq_true hl
                  rcases h with h | h | h <;> subst h <;> decide
                clear HLS HW HP hl h1 h2 b0 b1 b2 b3
                rcases hc with g1 | ⟨g1, g2⟩ | ⟨g1, g2, g3⟩
                all_goals
                  go_wp2_with fail
                  go_at_call 79
                  refine (CC.out _).mono ?_
                  rintro e w2 ⟨rfl, hw⟩
                  obtain rfl := hw.symm
                  clear hw
                  go_wp2_with fail
                  go_at_call 79
                  refine (CS.out _).mono ?_
                  rintro e w2 ⟨rfl, hw⟩
                  obtain rfl := hw.symm
                  clear hw
                  go_wp2_with fail
                  go_at_call 79
                  refine (CN.out _).mono ?_
                  rintro e w2 ⟨rfl, hw⟩
                  obtain rfl := hw.symm
                  clear hw
                  go_wp2_with fail
                  go_at_call 81
                  refine (CR.out _).mono ?_
                  rintro e w2 ⟨rfl, hw⟩
                  obtain rfl := hw.symm
                  clear hw
                  go_wp2_with (at_builtin; go_must (refine wpList_append_lies _ rfl _ _ _ rfl (w.heap.size + 1) 89 i1 (.agg #[.int .i64 0, .string ⟨#[]⟩, .int .i64 0]) 3 32 Tryz.underlying83 hi' hz0' hz1' hz2' rfl (by decide) _ _ _ rfl (HO.out.alloc _) ⟨wr.heap.size, 0, none⟩ 1 1 (lc 4 (t.extract i (i + n)) i) rfl rfl (new_cells wr _ 89) (lc_one _ _ _) (by decide) (by unfold maxLen; omega) (by omega) (by simp; omega) (wr.heap.size + 1) (by simp) ?_; intro g9 cap9 w9 hown9 hgr9 hat9 hlt9; have HB9 := hid (Tryz.bx_grown HB.out HO.out _ hgr9); have HO9 := hid (lc_own hown9 HX.out); clear hown9 hgr9 hat9 hlt9))
                  go_roundw
                  case rel => exact ⟨i + n, f', acc ++ [(⟨4, P, i⟩ : Wd)], hn2, val_int (by omega), (by show _ ≤ _; rw [List.length_append]; exact Nat.add_le_add HN.out hn1), HO9.out, HN1.out.symm.trans HL.out, HN2.out, HB9.out⟩
                  case measure => simp [intOf]; omega
              | false =>
                have HW := hid (HLS.out.trans (if_neg (by rw [hl]; decide)))
                have HE := hid (show R = ([], 4, i) by rw [← HL.out, lx_bad HF.out HTL.out (by rw [HW.out]; show (4 : Nat) ≠ 0; decide), HW.out])
                obtain ⟨g1, g2, g3⟩ : ¬ (t.extract i (i + n)).toList = [116, 114, 117, 101] ∧ ¬ (t.extract i (i + n)).toList = [102, 97, 108, 115, 101] ∧ ¬ (t.extract i (i + n)).toList = [110, 117, 108, 108] := by
                  rw [HP.out]
                  have h := of_decide_eq_false hl
                  exact ⟨fun e => h (Or.inl e), fun e => h (Or.inr (Or.inl e)), fun e => h (Or.inr (Or.inr e))⟩
                have e1 : ((t.extract i (i + n)).toList == [116, 114, 117, 101]) = false := by rw [beq_eq_false_iff_ne]; exact g1
                have e2 : ((t.extract i (i + n)).toList == [102, 97, 108, 115, 101]) = false := by rw [beq_eq_false_iff_ne]; exact g2
                have e3 : ((t.extract i (i + n)).toList == [110, 117, 108, 108]) = false := by rw [beq_eq_false_iff_ne]; exact g3
                clear HLS HW HP HX hl g1 g2 g3
                go_wp2_with fail
                go_at_call 79
                refine (CC.out _).mono ?_
                rintro e w2 ⟨rfl, hw⟩
                obtain rfl := hw.symm
                clear hw
                go_wp2_with fail
                go_at_call 79
                refine (CS.out _).mono ?_
                rintro e w2 ⟨rfl, hw⟩
                obtain rfl := hw.symm
                clear hw
                go_wp2_with fail
                go_at_call 79
                refine (CN.out _).mono ?_
                rintro e w2 ⟨rfl, hw⟩
                obtain rfl := hw.symm
                clear hw
                go_wp2_with fail
                go_at_call 81
                refine (CR.out _).mono ?_
                rintro e w2 ⟨rfl, hw⟩
                obtain rfl := hw.symm
                clear hw
                go_wp2_with fail
                refine bodyPost_ret (v := .tuple #[.slice none 0 0, .agg #[.int .i64 4, .int .i64 (i : Int)]]) (by simp [results, Tryz.results53, go_sem, b0, b1]) rfl ?_
                exact Tryz.cut_bad HB.out HE.out rfl rfl _ _
    · have HE := hid (show R = (acc ++ [⟨0, [], t.size⟩], 0, 0) by rw [← HL.out, lx_end HF.out (by rw [HZ.out]; omega) (by rw [HZ.out]; omega), HZ.out])
      have hN : acc.length ≤ 65536 := Nat.le_trans HN.out (by omega)
      have hws : w.heap.size + 1 ≤ wr.heap.size := b3
      clear b0 b1 b2 b3
      go_wp2_with (at_builtin; go_must (refine wpList_append_lies _ rfl _ _ _ rfl (w.heap.size + 1) 89 i1 (.agg #[.int .i64 0, .string ⟨#[]⟩, .int .i64 0]) 3 32 Tryz.underlying83 hi' hz0' hz1' hz2' rfl (by decide) _ _ _ rfl (HO.out.alloc _) ⟨wr.heap.size, 0, none⟩ 1 1 (wc ⟨0, [], t.size⟩) rfl rfl (new_cells wr _ 89) (wc_one _) (by decide) (by unfold maxLen; omega) (by omega) (by simp; omega) (wr.heap.size + 1) (by simp) ?_; intro g9 cap9 w9 hown9 hgr9 hat9 hlt9; have HB9 := hid (Tryz.bx_grown HB.out HO.out _ hgr9); have HO9 := hid hown9; clear hown9 hgr9 hat9 hlt9; obtain ⟨b0, b1, b2, b3⟩ := Tryz.bx_keeps HB9.out))
      refine bodyPost_ret (v := .tuple #[.slice (some ⟨g9, 0, none⟩) (acc.length + 1) cap9, .agg #[.int .i64 0, .int .i64 0]]) (by simp [results, Tryz.results53, go_sem, b0, b1]) rfl ?_
      exact Tryz.cut_end HB9.out HE.out HO9.out _ _
end Go.Proofs.YtbeolgnognhfpaaGreatDoor
namespace Go.Proofs.YtbeolgnognhfpaaGreatDoor
open Go.RowKit

set_option maxRecDepth 100000 in
set_option maxHeartbeats 2000000 in
theorem Tryz.rcut_of (H : LexHas) (t : ByteArray) (w : World) (ht : t.size ≤ 1000000) :
    Calls Tryz.prog 53 #[.string t] w (Tryz.CutPost w (cutA t.data.toList)) := by
  have HZ := hid (size_list t)
  by_cases h1 : t.size ≤ 65536
  · by_cases hv : rvI t.data.toList < 0
    · exact Tryz.rcut_in H t w h1 hv
    · have HE := hid (show cutA t.data.toList = ([], 3, (rvI t.data.toList).toNat) by unfold cutA; rw [if_neg (by rw [HZ.out]; omega), if_pos (by omega)])
      rw [HE.out]
      have CV := hid (fun X => H.valid t X (by omega))
      obtain ⟨rv, hrv⟩ : ∃ rv, rvI t.data.toList = rv := ⟨_, rfl⟩
      rw [hrv] at CV hv HE ⊢
      clear hrv HE
      have HT3 := hid (show rv = ((rv.toNat : Nat) : Int) from (Int.toNat_of_nonneg (by omega)).symm)
      have hv' : 0 ≤ rv := by omega
      go_enter Tryz.func53, Tryz.ntmps53
      go_wp2_with fail
      go_at_call 35
      refine (CV.out _).mono ?_
      rintro e w1 ⟨rfl, hb1⟩
      have HB1 : Hid (Below (Tryz.bxW w).heap.size (Tryz.bxW w) w1) := hb1
      clear hb1
      obtain ⟨b0, b1, b2, b3⟩ := Tryz.bx_keeps HB1.out
      go_wp2_with fail
      refine bodyPost_ret (v := .tuple #[.slice none 0 0, .agg #[.int .i64 3, .int .i64 rv]]) (by simp [results, Tryz.results53, go_sem, b0, b1]) rfl ?_
      exact Tryz.cut_bad HB1.out rfl rfl HT3.out _ _
  · have HE := hid (show cutA t.data.toList = ([], 2, t.size) by unfold cutA; rw [if_pos (by rw [HZ.out]; omega), HZ.out])
    rw [HE.out]
    clear HE
    go_enter Tryz.func53, Tryz.ntmps53
    go_wp2_with fail
    refine bodyPost_ret (v := .tuple #[.slice none 0 0, .agg #[.int .i64 2, .int .i64 (t.size : Int)]]) (by simp [results, Tryz.results53, go_sem]) rfl ?_
    exact ⟨_, rfl, World.ownsRow_nil _ _ _ _, (Below.refl _ _).alloc (Nat.le_refl _) _⟩
end Go.Proofs.YtbeolgnognhfpaaGreatDoor
