/- esc.from, Unquote, TUnquote: walked. -/
import Derived.Test.YtoamndiblckdlaaGreatDoorEscH
namespace Go.Proofs.YtoamndiblckdlaaGreatDoor
open Go.RowKit

theorem ltr_len (r : Int) : (ltr r).length ≤ 4 := by
  unfold ltr
  rw [size_list, strOfNums_size]
  unfold enc
  split
  · unfold encI; (repeat' split) <;> simp
  · simp
theorem fits_pl : Fits plP := fun l => ⟨tkN_le l, by unfold plP; rw [List.length_take]; exact Nat.min_le_left _ _⟩
theorem fits_escU (toml : Bool) (l : List UInt8) (n : Nat) (hn : 4 ≤ n) : (escU toml l n).2 ≤ l.length ∧ (escU toml l n).1.length ≤ (escU toml l n).2 := by
  unfold escU
  split
  · next h =>
    refine ⟨?_, Nat.le_trans (ltr_len _) (show 4 ≤ 2 + n by omega)⟩
    by_cases hl : l.length < 2 + n
    · rw [cdI_short l 2 n hl] at h; omega
    · exact Nat.le_of_not_lt hl
  · split
    · next h =>
      refine ⟨?_, Nat.le_trans (ltr_len _) (show 4 ≤ 12 by omega)⟩
      by_cases hl : l.length < 8 + 4
      · rw [cdI_short l 8 4 hl] at h; omega
      · exact Nat.le_of_not_lt hl
    · exact ⟨Nat.zero_le _, Nat.le_refl _⟩
theorem nmV_256 (toml : Bool) : nmV toml 256 = 256 := by unfold nmV; simp
theorem fits_esc (toml : Bool) : Fits (escP toml) := fun l => by
  unfold escP
  split
  · next h =>
    refine ⟨?_, by simp⟩
    by_cases hl : l.length ≤ 1
    · rw [bt_none hl, nmV_256] at h; omega
    · show 2 ≤ l.length; omega
  · split
    · exact fits_escU toml l 8 (by omega)
    · split
      · exact fits_escU toml l 4 (by omega)
      · exact ⟨Nat.zero_le _, Nat.le_refl _⟩
theorem fits_none (l : List UInt8) : (([], 0) : List UInt8 × Nat).2 ≤ l.length ∧ (([], 0) : List UInt8 × Nat).1.length ≤ (([], 0) : List UInt8 × Nat).2 := ⟨Nat.zero_le _, Nat.le_refl _⟩
theorem fits_js : Fits jsP := fun l => by
  unfold jsP
  split
  · exact fits_esc false l
  · split
    · exact fits_none l
    · exact fits_pl l
theorem fits_op : Fits opP := fun l => by
  unfold opP
  split
  · exact fits_none l
  · exact fits_pl l
theorem fits_mp : Fits mpP := fun l => by
  unfold mpP
  split
  · exact ⟨(lnE_le l).1, by rw [List.length_take]; exact Nat.min_le_left _ _⟩
  · exact fits_op l
theorem fits_oe : Fits oeP := fun l => by
  unfold oeP
  split
  · exact fits_esc true l
  · exact fits_op l
theorem fdN_le (l : List UInt8) : fdN l ≤ l.length := by
  unfold fdN
  have h1 := run_le bkB (l.drop 1)
  have h2 := run_le blB ((l.drop 1).drop (run bkB (l.drop 1)))
  have h3 := (lnE_le ((l.drop 1).drop (run bkB (l.drop 1)))).1
  rw [List.length_drop, List.length_drop] at h2 h3
  rw [List.length_drop] at h1
  split
  · omega
  · omega
theorem fits_me : Fits meP := fun l => by
  unfold meP
  split
  · split
    · exact ⟨fdN_le l, Nat.zero_le _⟩
    · exact fits_esc true l
  · exact fits_mp l
theorem fits_oE (q : Nat) (hq : q < 256) : Fits (oE q) := fun l => by
  unfold oE
  split
  · next h => exact ⟨bt_lt (k := 0) (by omega), Nat.zero_le _⟩
  · exact fits_none l
theorem fits_mE (q : Nat) : Fits (mE q) := fun l => by
  unfold mE
  split
  · exact fits_none l
  · exact ⟨(qN_le q l).2, by rw [List.length_take]; omega⟩
set_option maxRecDepth 100000 in
set_option maxHeartbeats 400000 in
theorem from_in (t : ByteArray) (a : Nat) (w : World) (ha : a ≤ t.size) :
    Calls Tryz.prog 58 #[.string t, .int .i64 (a : Int)] w fun e w' => e = .returned (.tuple #[.string (t.extract a t.size), .int .i64 (a : Int)]) ∧ w' = w := by
  go_enter Tryz.func58, Tryz.ntmps58
  go_wp2
  go_ret2
  exact ⟨rfl, rfl⟩
set_option maxRecDepth 100000 in
set_option maxHeartbeats 400000 in
theorem from_out (t : ByteArray) (a : Int) (w : World) (ha : ¬ (0 ≤ a ∧ a ≤ t.size)) :
    Calls Tryz.prog 58 #[.string t, .int .i64 a] w fun e w' => e = .returned (.tuple #[.string ⟨#[]⟩, .int .i64 (plc t.data.toList a)]) ∧ w' = w := by
  have HZ := hid (size_list t)
  by_cases h : a < 0
  · have HP := hid (show plc t.data.toList a = 0 by unfold plc; rw [if_pos h])
    clear ha
    go_enter Tryz.func58, Tryz.ntmps58
    go_wp2
    go_ret2
    exact ⟨ret_sn rfl HP.out.symm, rfl⟩
  · have h2 : (t.size : Int) < a := by omega
    have HP := hid (show plc t.data.toList a = t.size by unfold plc; rw [if_neg h, HZ.out, if_pos h2])
    clear ha
    go_enter Tryz.func58, Tryz.ntmps58
    go_wp2
    go_ret2
    exact ⟨ret_sn rfl HP.out.symm, rfl⟩
theorem cell_box (w X : World) (q : UInt8) (h : Below (w.alloc (.cells #[.int .u8 (q.toNat : Int)] 5)).heap.size (w.alloc (.cells #[.int .u8 (q.toNat : Int)] 5)) X) : X.cell? ⟨w.heap.size, 0, none⟩ = some (.int .u8 (q.toNat : Int)) := by
  have h0 : (w.alloc (.cells #[.int .u8 (q.toNat : Int)] 5)).cell? ⟨w.heap.size, 0, none⟩ = some (.int .u8 (q.toNat : Int)) := by simp
  exact (h.cell (World.block_lt_of_cell? _ _ h0)).trans h0
theorem oendOf (w : World) (q : UInt8) : EndOf (w.alloc (.cells #[.int .u8 (q.toNat : Int)] 5)) 71 w.heap.size (oE q.toNat) :=
  fun s X hX _ h0 => oend1_any q w.heap.size s X h0 (cell_box w X q hX)
theorem box_below {w w' : World} {o : Obj} (hb : Below (w.alloc o).heap.size (w.alloc o) w') : Below w.heap.size w w' := eonto ((Below.refl _ _).alloc (Nat.le_refl _) _) hb
theorem rd_js (t : ByteArray) (i : Nat) (w : World) (ht : t.size ≤ 1000000) (hi : i ≤ t.size) :
    Calls Tryz.prog 59 #[.string t, .int .i64 (i : Int), .func (.func 71) #[] #[.pointer (some ⟨w.heap.size, 0, none⟩)], .func (.func 61) #[] #[]] (w.alloc (.cells #[.int .u8 34] 5))
      fun e w' => e = .returned (.tuple #[.string (mkS (rdA (oE 34) jsP t.data.toList i).1), .int .i64 ((rdA (oE 34) jsP t.data.toList i).2.1 : Nat), .int .i64 (rdA (oE 34) jsP t.data.toList i).2.2]) ∧ Below w.heap.size w w' :=
  (read_any 71 61 w.heap.size (oE 34) jsP t i _ ht hi (enters_of Tryz.func71 (by kernel_rfl) rfl) (enters_of Tryz.func61 (by kernel_rfl) rfl) (oendOf w 34) jpiece_any (fits_oE 34 (by omega)) fits_js).mono fun e w' ⟨h, hb⟩ => ⟨h, box_below hb⟩
theorem plc_in (T : List UInt8) (a : Nat) (h : a ≤ T.length) : plc T (a : Int) = a := by unfold plc; rw [if_neg (by omega), if_neg (by omega)]
theorem bt_out (T : List UInt8) (a : Int) (h : ¬ (0 ≤ a ∧ a ≤ T.length)) (h0 : 0 ≤ a) (k : Nat) : bt (T.drop a.toNat) k = 256 := by rw [bt_drop, bt_none (by omega)]
theorem unqJ_out (T : List UInt8) (a : Int) (h : ¬ (0 ≤ a ∧ a ≤ T.length)) : unqJ T a = ([], 0, plc T a) := by
  unfold unqJ
  rw [if_neg]
  rintro ⟨h0, h1⟩
  rw [bt_none (by omega)] at h1; omega
theorem m3_out (q : Nat) (hq : q < 256) (T : List UInt8) (a : Int) (h : ¬ (0 ≤ a ∧ a ≤ T.length)) (h0 : 0 ≤ a) : m3 q (T.drop a.toNat) = false := by
  unfold m3; rw [bt_out T a h h0, decide_eq_false (by omega)]; rfl
theorem unqT_out (T : List UInt8) (a : Int) (h : ¬ (0 ≤ a ∧ a ≤ T.length)) : unqT T a = ([], 0, plc T a) := by
  unfold unqT
  rw [if_neg, if_neg, if_neg, if_neg]
  · rintro ⟨h0, h1⟩; rw [bt_none (by omega)] at h1; omega
  · rintro ⟨h0, h1⟩; rw [bt_none (by omega)] at h1; omega
  · rintro ⟨h0, h1⟩; rw [m3_out 39 (by omega) T a h h0] at h1; cases h1
  · rintro ⟨h0, h1⟩; rw [m3_out 34 (by omega) T a h h0] at h1; cases h1
theorem hp_empty (p : ByteArray) (h : 0 < p.size) (w : World) : Calls Tryz.prog 27 #[.string ⟨#[]⟩, .string p] w fun e w' => e = .returned (.bool false) ∧ w' = w := by
  have := Tryz.strings_HasPrefix ⟨#[]⟩ p w
  have e : Lib.hasPrefix (⟨#[]⟩ : ByteArray).data.toList p.data.toList = false := by
    unfold Lib.hasPrefix
    rw [list_of p h]; rfl
  rw [e] at this; exact this
set_option maxRecDepth 100000 in
set_option maxHeartbeats 1000000 in
theorem unq_any (t : ByteArray) (a : Int) (w : World) (ht : t.size ≤ 1000000) :
    Calls Tryz.prog 46 #[.string t, .int .i64 a] w fun e w' => e = .returned (.tuple #[.string (mkS (unqJ t.data.toList a).1), .int .i64 ((unqJ t.data.toList a).2.1 : Nat), .int .i64 (unqJ t.data.toList a).2.2]) ∧ Below w.heap.size w w' := by
  have HZ := hid (size_list t)
  by_cases ha : 0 ≤ a ∧ a ≤ t.size
  · obtain ⟨n, rfl⟩ : ∃ n : Nat, a = n := ⟨a.toNat, by omega⟩
    have hn : n ≤ t.size := by omega
    clear ha
    obtain ⟨u, hu⟩ : ∃ u, t.extract n t.size = u := ⟨_, rfl⟩
    have HF : Hid (∀ X, Calls Tryz.prog 58 #[.string t, .int .i64 (n : Int)] X fun e w' => e = .returned (.tuple #[.string u, .int .i64 (n : Int)]) ∧ w' = X) := fun X => by
      have := from_in t n X hn; rw [hu] at this; exact this
    have HP : Hid (∀ X, Calls Tryz.prog 27 #[.string u, .string ⟨#[34]⟩] X fun e w' => e = .returned (.bool (decide (bt t.data.toList n = 34))) ∧ w' = X) := fun X => by
      have := Tryz.strings_HasPrefix u ⟨#[34]⟩ X
      rw [show (⟨#[34]⟩ : ByteArray).data.toList = [34] from rfl, hp1, show u.data.toList = t.data.toList.drop n by rw [← hu, drop_list], bt_drop] at this; exact this
    by_cases hq : bt t.data.toList n = 34
    · rw [decide_eq_true hq] at HP
      have hlt : n < t.size := by have := bt_lt (l := t.data.toList) (k := n) (by omega); rw [HZ.out] at this; exact this
      have HR := hid (show unqJ t.data.toList (n : Int) = rdA (oE 34) jsP t.data.toList (n + 1) by unfold unqJ; rw [Int.toNat_natCast, if_pos ⟨by omega, hq⟩])
      have HRD : Hid (∀ X : World, Calls Tryz.prog 59 #[.string t, .int .i64 ((n : Int) + 1), .func (.func 71) #[] #[.pointer (some ⟨X.heap.size, 0, none⟩)], .func (.func 61) #[] #[]] (X.alloc (.cells #[.int .u8 34] 5)) _) := fun X => rd_js t (n + 1) X ht (by omega)
      have HEN : Hid (∀ X : World, Calls Tryz.prog 60 #[.int .u8 34] X _) := fun X => oend_any 34 X
      clear hq hu
      go_enter Tryz.func46, Tryz.ntmps46
      go_wp2_with (first
        | (go_at_call 58; go_must (refine (HF.out _).mono ?_; rintro e w1 ⟨rfl, rfl⟩))
        | (go_at_call 27; go_must (refine (HP.out _).mono ?_; rintro e w1 ⟨rfl, rfl⟩))
        | (go_at_call 60; go_must (refine (HEN.out _).mono ?_; rintro e w1 ⟨rfl, rfl⟩))
        | (go_at_call 59; go_must (refine (HRD.out _).mono ?_; rintro e w2 ⟨rfl, hb2⟩)))
      go_ret3
      exact ⟨ret_snn (by rw [HR.out]) (by rw [HR.out]) (by rw [HR.out]), hb2⟩
    · rw [decide_eq_false hq] at HP
      have HR := hid (show unqJ t.data.toList (n : Int) = ([], 0, (n : Int)) by unfold unqJ; rw [Int.toNat_natCast, if_neg (fun h => hq h.2), plc_in _ _ (by rw [HZ.out]; exact hn)])
      clear hq hu
      go_enter Tryz.func46, Tryz.ntmps46
      go_wp2_with (first
        | (go_at_call 58; go_must (refine (HF.out _).mono ?_; rintro e w1 ⟨rfl, rfl⟩))
        | (go_at_call 27; go_must (refine (HP.out _).mono ?_; rintro e w1 ⟨rfl, rfl⟩)))
      go_ret3
      exact ⟨ret_snn (by rw [HR.out]; rfl) (by rw [HR.out]; rfl) (by rw [HR.out]), Below.refl _ _⟩
  · have HF := hid (fun X => from_out t a X ha)
    have HR := hid (unqJ_out t.data.toList a (by rw [HZ.out]; exact ha))
    clear ha
    generalize plc t.data.toList a = p at *
    go_enter Tryz.func46, Tryz.ntmps46
    go_wp2_with (first
      | (go_at_call 58; go_must (refine (HF.out _).mono ?_; rintro e w1 ⟨rfl, rfl⟩))
      | (go_at_call 27; go_must (refine (hp_empty _ (by decide) _).mono ?_; rintro e w1 ⟨rfl, rfl⟩)))
    go_ret3
    exact ⟨ret_snn (by rw [HR.out]; rfl) (by rw [HR.out]; rfl) (by rw [HR.out]), Below.refl _ _⟩
theorem m3_of (q : UInt8) (l : List UInt8) : Lib.hasPrefix l [q, q, q] = m3 q.toNat l := by
  rw [hp3]; unfold m3; rw [Bool.eq_iff_iff]; simp [and_assoc]
end Go.Proofs.YtoamndiblckdlaaGreatDoor
