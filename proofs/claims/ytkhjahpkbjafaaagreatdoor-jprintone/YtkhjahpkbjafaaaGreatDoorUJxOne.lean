
import Derived.Test.YtkhjahpkbjafaaaGreatDoorULexDoc
import Derived.Test.YtkhjahpkbjafaaaGreatDoorUPlaceAll
import Derived.Test.YtkhjahpkbjafaaaGreatDoorUShelf
import Derived.Test.YtkhjahpkbjafaaaGreatDoorUMathLexM
import Derived.Lib.OthersKept
import Derived.Deep.LoopGhost
import Derived.Deep.QuietTactic
import Derived.BigQuiet
import Derived.WalkMore
import Derived.Laws.Runes
/- jlex.among, rowEnd, piece, refuse: walked. -/
/- jlex.piece, refuse: walked. -/
/- jlex.lettersEnd: walked. -/
/- strings.IndexRune and ContainsRune at the ten digits; jlex.nought: walked. -/
namespace Go.Proofs.YtkhjahpkbjafaaaGreatDoor
open Go.RowKit

theorem ixB_ge (l : List UInt8) (b : UInt8) : -1 ≤ Lib.indexByte l b := by
  induction l with
  | nil => exact Int.le_refl _
  | cons a l ih => unfold Lib.indexByte; (repeat' split) <;> omega
theorem ixB_in (l : List UInt8) (b : UInt8) : decide (0 ≤ Lib.indexByte l b) = inB l b := by
  induction l with
  | nil => rfl
  | cons a l ih =>
    unfold Lib.indexByte inB
    rw [List.any_cons]
    by_cases h : a = b
    · subst h; simp
    · have h2 : ¬ a.toNat = b.toNat := fun e => h (UInt8.toNat_inj.1 e)
      have h3 : (a == b) = false := by simpa using h
      rw [h3, decide_eq_false h2, Bool.false_or]
      have e : (l.any fun x => decide (x.toNat = b.toNat)) = inB l b := rfl
      rw [e, ← ih]
      simp only [Bool.false_eq_true, if_false]
      by_cases h4 : Lib.indexByte l b = -1
      · rw [h4]; rfl
      · have h5 : (Lib.indexByte l b == -1) = false := by simpa using h4
        rw [h5]
        simp only [Bool.false_eq_true, if_false]
        have h6 : -1 ≤ Lib.indexByte l b := ixB_ge l b
        exact decide_eq_decide.2 (by omega)
set_option maxRecDepth 100000 in
theorem among_any (s : ByteArray) (b : UInt8) (w : World) :
    Calls Tryz.prog 77 #[.string s, .int .u8 (b.toNat : Int)] w fun e w' => e = .returned (.bool (inB s.data.toList b)) ∧ w' = w := by
  have HI : Hid (∀ X, Calls Tryz.prog 106 #[.string s, .int .u8 (b.toNat : Int)] X fun e w' => e = .returned (.int .i64 (Lib.indexByte s.data.toList b)) ∧ w' = X) := fun X => by
    have := Tryz.strings_IndexByte s (b.toNat : Int) X
    have e : ((b.toNat : Int).toNat).toUInt8 = b := by simp
    rw [e] at this; exact this
  rw [← ixB_in]
  obtain ⟨R, hR⟩ : ∃ R, Lib.indexByte s.data.toList b = R := ⟨_, rfl⟩
  rw [hR] at HI ⊢
  clear hR
  obtain ⟨n, hn⟩ : ∃ n, b.toNat = n := ⟨_, rfl⟩
  rw [hn] at HI ⊢
  clear hn
  go_enter Tryz.func77, Tryz.ntmps77
  go_wp2_with (go_at_call 106; go_must (refine (HI.out _).mono ?_; rintro e w1 ⟨rfl, rfl⟩))
  go_ret
  exact ⟨rfl, rfl⟩
set_option maxRecDepth 100000 in
set_option maxHeartbeats 1000000 in
theorem rowEnd_of (t : ByteArray) (a : Nat) (s : ByteArray) (p : UInt8 → Bool) (hp : inB s.data.toList = p) (w : World) (ht : t.size ≤ 1000000) (ha : a ≤ t.size) :
    Calls Tryz.prog 56 #[.string t, .int .i64 (a : Int), .string s] w fun e w' => e = .returned (.int .i64 (a + run p (t.data.toList.drop a) : Nat)) ∧ w' = w := by
  have HC := hid (fun (b : UInt8) X => among_any s b X)
  have HR : Hid (∀ n, a + n ≤ t.size → (∀ k (h : k < t.size), a ≤ k → k < a + n → p t[k] = true) → (∀ h : a + n < t.size, p t[a + n] = false) → run p (t.data.toList.drop a) = n) := fun n h1 h2 h3 => by
    refine run_is n (by rw [List.length_drop, size_list]; omega) (fun k hk hkn => ?_) (fun h => ?_)
    · have hk2 : a + k < t.size := by rw [List.length_drop, size_list] at hk; omega
      have := h2 (a + k) hk2 (by omega) (by omega)
      rw [List.getElem_drop]; exact this
    · have hk2 : a + n < t.size := by rw [List.length_drop, size_list] at h; omega
      rw [List.getElem_drop]; exact h3 hk2
  obtain ⟨R, hRR⟩ : ∃ R, run p (t.data.toList.drop a) = R := ⟨_, rfl⟩
  rw [hRR] at HR ⊢
  simp only [hp] at HC
  clear hRR hp
  go_enter Tryz.func56, Tryz.ntmps56
  go_wp2_with fail
  go_loop [1] (fun i => ∃ j : Nat, a + j ≤ t.size ∧ i = .int .i64 ((a + j : Nat) : Int) ∧ Hid (∀ k (h : k < t.size), a ≤ k → k < a + j → p t[k] = true)) (fun i => t.size - (intOf i).toNat)
  case atStart => exact ⟨0, by omega, rfl, fun k _ h1 h2 => absurd h2 (by omega)⟩
  case round =>
    obtain ⟨j, hj, rfl, HJ⟩ := hrel
    by_cases hlt : a + j < t.size
    · have hb := t[a + j].toNat_lt
      have CC := hid (HC.out t[a + j])
      cases hpb : p t[a + j] with
      | true =>
        have HJ2 := hid (show ∀ k (h : k < t.size), a ≤ k → k < a + (j + 1) → p t[k] = true from fun k hk h1 h2 => by
          by_cases hkj : k = a + j
          · subst hkj; exact hpb
          · exact HJ.out k hk h1 (by omega))
        rw [hpb] at CC
        clear hpb
        go_wp2_with (go_at_call 77; go_must (refine (CC.out _).mono ?_; rintro e w1 ⟨rfl, rfl⟩))
        go_round
        case rel => exact ⟨j + 1, by omega, val_int (by omega), HJ2.out⟩
        case measure => simp [intOf]; omega
      | false =>
        have HE := hid (HR.out j hj HJ.out (fun _ => hpb))
        rw [hpb] at CC
        clear hpb
        go_wp2_with (go_at_call 77; go_must (refine (CC.out _).mono ?_; rintro e w1 ⟨rfl, rfl⟩))
        go_ret
        exact ⟨ret_int (by rw [HE.out] <;> omega), rfl⟩
    · have HE := hid (HR.out j hj HJ.out (fun h => absurd h hlt))
      go_wp2_with fail
      go_ret
      exact ⟨ret_int (by rw [HE.out] <;> omega), rfl⟩
theorem rowEnd_bl (t : ByteArray) (a : Nat) (w : World) (ht : t.size ≤ 1000000) (ha : a ≤ t.size) :
    Calls Tryz.prog 56 #[.string t, .int .i64 (a : Int), .string ⟨#[32, 9, 10, 13]⟩] w fun e w' => e = .returned (.int .i64 (a + run blB (t.data.toList.drop a) : Nat)) ∧ w' = w := rowEnd_of t a _ blB (funext in_bl) w ht ha
theorem rowEnd_nc (t : ByteArray) (a : Nat) (w : World) (ht : t.size ≤ 1000000) (ha : a ≤ t.size) :
    Calls Tryz.prog 56 #[.string t, .int .i64 (a : Int), .string ⟨#[48, 49, 50, 51, 52, 53, 54, 55, 56, 57, 43, 45, 46, 101, 69]⟩] w fun e w' => e = .returned (.int .i64 (a + run numC (t.data.toList.drop a) : Nat)) ∧ w' = w := rowEnd_of t a _ numC (funext in_nc) w ht ha
theorem rowEnd_lc (t : ByteArray) (a : Nat) (w : World) (ht : t.size ≤ 1000000) (ha : a ≤ t.size) :
    Calls Tryz.prog 56 #[.string t, .int .i64 (a : Int), .string ⟨#[97, 98, 99, 100, 101, 102, 103, 104, 105, 106, 107, 108, 109, 110, 111, 112, 113, 114, 115, 116, 117, 118, 119, 120, 121, 122]⟩] w fun e w' => e = .returned (.int .i64 (a + run lowC (t.data.toList.drop a) : Nat)) ∧ w' = w := rowEnd_of t a _ lowC (funext in_lc) w ht ha
theorem among_of (s : ByteArray) (p : UInt8 → Bool) (hp : ∀ b, inB s.data.toList b = p b) (b : UInt8) (w : World) :
    Calls Tryz.prog 77 #[.string s, .int .u8 (b.toNat : Int)] w fun e w' => e = .returned (.bool (p b)) ∧ w' = w := by
  have := among_any s b w
  rw [hp] at this; exact this
end Go.Proofs.YtkhjahpkbjafaaaGreatDoor
namespace Go.Proofs.YtkhjahpkbjafaaaGreatDoor
open Go.RowKit

/-- the world with the boxes of a word and of a fault -/
def Tryz.pw0 (w : World) : World := w.alloc (.cells #[.int .i64 0, .string ⟨#[]⟩, .int .i64 0] 70)
def Tryz.pwW (w : World) : World := (Tryz.pw0 w).alloc (.cells #[.int .i64 0, .int .i64 0, .int .i64 0, .int .i64 0] 30)
theorem Tryz.pw_size (w : World) : (Tryz.pwW w).heap.size = w.heap.size + 2 := by unfold Tryz.pwW Tryz.pw0; simp
theorem Tryz.pw0_size (w : World) : (Tryz.pw0 w).heap.size = w.heap.size + 1 := by unfold Tryz.pw0; simp
theorem Tryz.pw_bel (w : World) : Below w.heap.size w (Tryz.pwW w) := ((Below.refl _ _).alloc (Nat.le_refl _) _).alloc (by simp) _
theorem Tryz.pw_keeps {w wr : World} (h : Below (Tryz.pwW w).heap.size (Tryz.pwW w) wr) :
    (wr.cell? ⟨w.heap.size, 0, none⟩ = some (.int .i64 0) ∧ wr.cell? ⟨w.heap.size, 1, none⟩ = some (.string ⟨#[]⟩) ∧ wr.cell? ⟨w.heap.size, 2, none⟩ = some (.int .i64 0) ∧ ∀ o, wr.frozen? ⟨w.heap.size, o, none⟩ = false)
    ∧ (wr.cell? ⟨w.heap.size + 1, 0, none⟩ = some (.int .i64 0) ∧ wr.cell? ⟨w.heap.size + 1, 1, none⟩ = some (.int .i64 0) ∧ wr.cell? ⟨w.heap.size + 1, 2, none⟩ = some (.int .i64 0) ∧ wr.cell? ⟨w.heap.size + 1, 3, none⟩ = some (.int .i64 0) ∧ ∀ o, wr.frozen? ⟨w.heap.size + 1, o, none⟩ = false)
    ∧ w.heap.size + 1 < wr.heap.size := by
  have hs := Tryz.pw_size w
  have hs0 := Tryz.pw0_size w
  have h0 := h.size
  have ha : Below (Tryz.pw0 w).heap.size (Tryz.pw0 w) (Tryz.pwW w) := (Below.refl _ _).alloc (Nat.le_refl _) _
  have k0 : ∀ i u, ([.int .i64 0, .string ⟨#[]⟩, .int .i64 0] : List Value)[i]? = some u → wr.cell? (Addr.add ⟨w.heap.size, 0, none⟩ i) = some u := fun i u hi => by
    have e := new_cells w [.int .i64 0, .string ⟨#[]⟩, .int .i64 0] 70 i u hi
    have hb := World.block_lt_of_cell? _ _ e
    rw [h.cell (by have : (Addr.add ⟨w.heap.size, 0, none⟩ i).block < (Tryz.pw0 w).heap.size := hb; omega), ha.cell hb]; exact e
  have k1 : ∀ i u, ([.int .i64 0, .int .i64 0, .int .i64 0, .int .i64 0] : List Value)[i]? = some u → wr.cell? (Addr.add ⟨(Tryz.pw0 w).heap.size, 0, none⟩ i) = some u := fun i u hi => by
    have e := new_cells (Tryz.pw0 w) [.int .i64 0, .int .i64 0, .int .i64 0, .int .i64 0] 30 i u hi
    have hb := World.block_lt_of_cell? _ _ e
    rw [h.cell hb]; exact e
  rw [hs0] at k1
  refine ⟨⟨k0 0 _ rfl, k0 1 _ rfl, k0 2 _ rfl, fun o => ?_⟩, ⟨k1 0 _ rfl, k1 1 _ rfl, k1 2 _ rfl, k1 3 _ rfl, fun o => ?_⟩, by omega⟩
  · rw [h.frozen (by show w.heap.size < _; omega), ha.frozen (by show w.heap.size < _; omega)]
    unfold Tryz.pw0; rw [World.frozen?_alloc_at _ _ _ _ rfl]
  · rw [h.frozen (by show w.heap.size + 1 < _; omega), ← hs0]
    unfold Tryz.pwW; rw [World.frozen?_alloc_at _ _ _ _ rfl]
theorem set7 {B b c : Nat} {a w : World} {x1 x2 x3 x4 x5 x6 x7 : Value} (h : Below B a w) (hb : B ≤ b) (hc : B ≤ c) :
    Below B a (((((((w.setCell ⟨b, 0, none⟩ x1).setCell ⟨b, 1, none⟩ x2).setCell ⟨b, 2, none⟩ x3).setCell ⟨c, 0, none⟩ x4).setCell ⟨c, 1, none⟩ x5).setCell ⟨c, 2, none⟩ x6).setCell ⟨c, 3, none⟩ x7) :=
  ((((((h.setCell hb _).setCell hb _).setCell hb _).setCell hc _).setCell hc _).setCell hc _).setCell hc _
set_option maxRecDepth 100000 in
theorem clone_any (s : ByteArray) (w : World) (hs : s.size ≤ 1000000) :
    Calls Tryz.prog 107 #[.string s] w fun e w' => e = .returned (.string s) ∧ Below w.heap.size w w' := by
  have C := hid (fun X => Tryz.stringslite_Clone s X (by omega))
  go_enter Tryz.func107, Tryz.ntmps107
  go_wp2_with (go_at_call 135; go_must (refine (C.out _).mono ?_; rintro e w1 ⟨rfl, hb⟩))
  go_ret
  exact ⟨rfl, hb⟩
set_option maxRecDepth 100000 in
set_option maxHeartbeats 1000000 in
theorem piece_any (t : ByteArray) (a n : Nat) (k : Int) (w : World) (ht : t.size ≤ 1000000) (ha : a ≤ n) (hn : n ≤ t.size) :
    Calls Tryz.prog 78 #[.string t, .int .i64 (a : Int), .int .i64 (n : Int), .int .i64 k] w fun e w' => e = .returned (.tuple #[.agg #[.int .i64 k, .string (t.extract a n), .int .i64 (a : Int)], .int .i64 (n : Int), .agg #[.int .i64 0, .int .i64 0, .int .i64 0, .int .i64 0]]) ∧ Below w.heap.size w w' := by
  have hz : (t.extract a n).size ≤ 1000000 := by simp; omega
  have C := hid (fun X => clone_any (t.extract a n) X hz)
  clear hz
  obtain ⟨m, hm⟩ : ∃ m, t.extract a n = m := ⟨_, rfl⟩
  rw [hm] at C ⊢
  go_enter Tryz.func78, Tryz.ntmps78
  go_wp2_with fail
  go_at_call 107
  refine (C.out _).mono ?_
  rintro e w1 ⟨rfl, hb⟩
  have HW : Hid (Below (Tryz.pwW w).heap.size (Tryz.pwW w) w1) := hb
  obtain ⟨⟨a0, a1, a2, a3⟩, ⟨b0, b1, b2, b3, b4⟩, hz⟩ := Tryz.pw_keeps HW.out
  clear hb
  go_wp2_with fail
  refine bodyPost_ret (v := .tuple #[.agg #[.int .i64 k, .string m, .int .i64 (a : Int)], .int .i64 (n : Int), .agg #[.int .i64 0, .int .i64 0, .int .i64 0, .int .i64 0]]) (by simp [results, Tryz.results78, go_sem, a0, a1, a2, b0, b1, b2, b3]) rfl ⟨rfl, ?_⟩
  exact set7 (onto (Tryz.pw_bel w) HW.out) (Nat.le_refl _) (Nat.le_succ _)
set_option maxRecDepth 100000 in
set_option maxHeartbeats 1000000 in
theorem refuse_any (t : ByteArray) (a : Int) (x : Int) (w : World) (ht : t.size ≤ 1000000) :
    Calls Tryz.prog 82 #[.string t, .int .i64 a, .int .i64 x] w fun e w' => e = .returned (.tuple #[.agg #[.int .i64 0, .string ⟨#[]⟩, .int .i64 0], .int .i64 0, faultV t a x]) ∧ Below w.heap.size w w' := by
  have C := hid (fun X => fault_any t a x X ht)
  unfold faultV at C ⊢
  obtain ⟨f1, h1⟩ : ∃ f1, clN t.size a = f1 := ⟨_, rfl⟩
  obtain ⟨f2, h2⟩ : ∃ f2, ofL t a = f2 := ⟨_, rfl⟩
  obtain ⟨f3, h3⟩ : ∃ f3, ofC t a = f3 := ⟨_, rfl⟩
  rw [h1, h2, h3] at C ⊢
  clear h1 h2 h3
  go_enter Tryz.func82, Tryz.ntmps82
  go_wp2_with fail
  go_at_call 54
  refine (C.out _).mono ?_
  rintro e w1 ⟨rfl, hb⟩
  have HW : Hid (Below (Tryz.pwW w).heap.size (Tryz.pwW w) w1) := hb
  obtain ⟨⟨a0, a1, a2, a3⟩, ⟨b0, b1, b2, b3, b4⟩, hz⟩ := Tryz.pw_keeps HW.out
  clear hb
  go_wp2_with fail
  refine bodyPost_ret (v := .tuple #[.agg #[.int .i64 0, .string ⟨#[]⟩, .int .i64 0], .int .i64 0, .agg #[.int .i64 x, .int .i64 f1, .int .i64 f2, .int .i64 f3]]) (by simp [results, Tryz.results82, go_sem, a0, a1, a2, b0, b1, b2, b3]) rfl ⟨rfl, ?_⟩
  exact set7 (onto (Tryz.pw_bel w) HW.out) (Nat.le_refl _) (Nat.le_succ _)
end Go.Proofs.YtkhjahpkbjafaaaGreatDoor
namespace Go.Proofs.YtkhjahpkbjafaaaGreatDoor
open Go.RowKit

theorem hasP_iff (l : List UInt8) : Lib.hasPrefix l [239, 191, 189] = true ↔ [239, 191, 189] <+: l := by
  unfold Lib.hasPrefix; exact List.isPrefixOf_iff_prefix
set_option maxRecDepth 100000 in
set_option maxHeartbeats 1000000 in
theorem letters_any (t : ByteArray) (w : World) :
    Calls Tryz.prog 55 #[.string t] w fun e w' => e = .returned (.int .i64 (pos t.data.toList (vlk t.data.toList) : Nat)) ∧ Below w.heap.size w w' := by
  have HZ := hid (size_list t)
  have HV := hid (fun k => vlk_eq t.data.toList k)
  obtain ⟨T, hT⟩ : ∃ T, t.data.toList = T := ⟨_, rfl⟩
  have HT := hid hT
  rw [hT] at HV HZ ⊢
  clear hT
  go_enter Tryz.func55, Tryz.ntmps55
  go_wp2_with fail
  go_loopg [] t.size (fun gk wx => ∃ k : Nat, pos T k ≤ t.size ∧ k ≤ t.size ∧ t.size ≤ k + gk ∧ wx.heap[w.heap.size]? = some (.stringIter t (pos T k)) ∧ Hid (∀ j < k, vgo T j = true) ∧ Hid (Below w.heap.size w wx))
  case atStart =>
    exact ⟨0, Nat.zero_le _, Nat.zero_le _, by omega, World.iter_heap w t 0, fun j h => absurd h (by omega), (Below.refl _ _).alloc (Nat.le_refl _) _⟩
  case round =>
    obtain ⟨k, hk, hkt, hg, hit, HJ, HB⟩ := hrel
    by_cases hlt : pos T k < t.size
    · have hnx : ∀ ty, (Instr.next (.pointer (some ⟨w.heap.size, 0, none⟩)) true ty).run Tryz.prog wr = _ := fun ty => Lib.run_next_any_at wr w.heap.size t (pos T k) ty hit hlt
      have hdl : Utf8.decode t (pos T k) = if tkN (T.drop (pos T k)) = 0 then (65533, 1) else (tkR (T.drop (pos T k)), tkN (T.drop (pos T k))) := by
        rw [← Lib.decodeL_drop, HT.out, tk_dec _ (by rw [List.length_drop, HZ.out]; omega)]
      have HP : Hid (∀ X, Calls Tryz.prog 76 #[.string (t.extract (pos T k) t.size), .string ⟨#[239, 191, 189]⟩] X fun e w' => e = .returned (.bool (Lib.hasPrefix (T.drop (pos T k)) [239, 191, 189])) ∧ w' = X) := fun X => by
        have := Tryz.strings_HasPrefix (t.extract (pos T k) t.size) ⟨#[239, 191, 189]⟩ X
        rw [drop_list, HT.out] at this; exact this
      have hnl := pos_next T k (by rw [HZ.out]; exact hlt)
      rw [HZ.out] at hnl
      have hgt := pos_ge T k
      have hgt1 := pos_ge T (k + 1)
      by_cases h0 : tkN (T.drop (pos T k)) = 0
      · rw [if_pos h0] at hdl
        rw [hdl] at hnx
        have hpf : Lib.hasPrefix (T.drop (pos T k)) [239, 191, 189] = false := by
          cases h : Lib.hasPrefix (T.drop (pos T k)) [239, 191, 189] with
          | false => rfl
          | true => have := tk_pre _ ((hasP_iff _).1 h); omega
        rw [hpf] at HP
        have HE := hid (HV.out k (by unfold vgo; rw [h0]; simp) HJ.out (by rw [HZ.out]; omega))
        have HB2 := hid (Lib.below_iterAt HB.out (k := w.heap.size) (Nat.le_refl _) t (pos T k + 1))
        obtain ⟨p, hp⟩ : ∃ p, pos T k = p := ⟨_, rfl⟩
        rw [hp] at hnx HP hlt hk HB2
        have HPP := hid hp
        clear hdl hpf h0 hit HB hnl hp hgt hgt1
        go_wp2_with (go_at_call 76; go_must (refine (HP.out _).mono ?_; rintro e w1 ⟨rfl, rfl⟩))
        go_ret
        exact ⟨ret_int (by rw [← HE.out, HPP.out]), HB2.out⟩
      · rw [if_neg h0] at hdl
        rw [hdl] at hnx
        have HJ2 := hid (show ∀ j < k + 1, vgo T j = true from fun j hj => by
          by_cases hjk : j = k
          · subst hjk; unfold vgo; rw [decide_eq_true (by rw [HZ.out]; exact hlt), decide_eq_true h0]; rfl
          · exact HJ.out j (by omega))
        have hps : pos T k + tkN (T.drop (pos T k)) = pos T (k + 1) := by have := pos_succ' T k h0; omega
        have hfd := tk_fffd _ h0
        rw [hps] at hnx
        have HB2 := hid (Lib.below_iterAt HB.out (k := w.heap.size) (Nat.le_refl _) t (pos T (k + 1)))
        have HI2 := hid (Lib.iterAt_heap wr w.heap.size t (pos T k) (pos T (k + 1)) hit)
        obtain ⟨g', rfl⟩ : ∃ g', gk = g' + 1 := ⟨gk - 1, by omega⟩
        have hrl : tkR (T.drop (pos T k)) ≤ 1114111 := by
          have := Lib.rune_le t (pos T k); rw [hdl] at this; exact this
        by_cases h5 : tkR (T.drop (pos T k)) = 65533
        · have hpf : Lib.hasPrefix (T.drop (pos T k)) [239, 191, 189] = true := (hasP_iff _).2 (hfd.1 h5)
          rw [hpf] at HP
          rw [h5] at hnx
          obtain ⟨p, hp⟩ : ∃ p, pos T k = p := ⟨_, rfl⟩
          rw [hp] at hnx HP hlt hk
          clear hdl hpf h0 hit HB hp hps hfd h5 hgt hrl
          go_wp2_with (go_at_call 76; go_must (refine (HP.out _).mono ?_; rintro e w1 ⟨rfl, rfl⟩))
          go_roundg g'
          case measure => omega
          case rel => exact ⟨k + 1, hnl, by omega, by omega, HI2.out, HJ2.out, HB2.out⟩
        · obtain ⟨r, hr⟩ : ∃ r, tkR (T.drop (pos T k)) = r := ⟨_, rfl⟩
          rw [hr] at hnx h5 hrl
          have h6 : ((r : Int) == 65533) = false := by rw [beq_eq_false_iff_ne]; omega
          obtain ⟨p, hp⟩ : ∃ p, pos T k = p := ⟨_, rfl⟩
          rw [hp] at hnx HP hlt hk
          clear hdl h0 hit HB hp hps hfd hr h5 hgt
          go_wp2_with fail
          go_roundg g'
          case measure => omega
          case rel => exact ⟨k + 1, hnl, by omega, by omega, HI2.out, HJ2.out, HB2.out⟩
    · have hnx : ∀ ty, (Instr.next (.pointer (some ⟨w.heap.size, 0, none⟩)) true ty).run Tryz.prog wr = _ := fun ty => Lib.run_next_end_at wr w.heap.size t (pos T k) ty hit hlt
      have HE := hid (HV.out k (by unfold vgo; rw [decide_eq_false (by rw [HZ.out]; exact hlt)]; rfl) HJ.out (by rw [HZ.out]; omega))
      have HP := hid (show pos T k = t.size by omega)
      clear hit hlt hk
      go_wp2_with fail
      go_ret
      exact ⟨ret_int (by rw [← HE.out, HP.out]), HB.out⟩
end Go.Proofs.YtkhjahpkbjafaaaGreatDoor
namespace Go.Proofs.YtkhjahpkbjafaaaGreatDoor
open Go.RowKit

theorem ten_lt : ∀ (l : List UInt8), (∀ x ∈ l, x.toNat < 128) → ∀ c : UInt8, 128 ≤ c.toNat → Lib.indexByte l c = -1
  | [], _, _, _ => rfl
  | b :: l, h, c, hc => by
    have h1 : (b == c) = false := by
      rw [beq_eq_false_iff_ne]; rintro rfl
      have := h b (by simp); omega
    unfold Lib.indexByte
    rw [h1, ten_lt l (fun x hx => h x (by simp [hx])) c hc]; rfl
theorem ten_ix (T : ByteArray) (hA : ∀ k (h : k < T.size), T[k].toNat < 128) (k j : Nat) (c : UInt8) (hc : 128 ≤ c.toNat) (X : World) :
    Calls Tryz.prog 106 #[.string (T.extract k j), .int .u8 (c.toNat : Int)] X fun e w' => e = .returned (.int .i64 (-1)) ∧ w' = X := by
  have := Tryz.strings_IndexByte (T.extract k j) (c.toNat : Int) X
  have e : ((c.toNat : Int).toNat).toUInt8 = c := by simp
  rw [e, ten_lt _ (fun x hx => ?_) c hc] at this
  · exact this
  · have hm := mem_extract hx
    obtain ⟨i, hi, rfl⟩ := List.getElem_of_mem hm
    exact hA i (by rw [size_list] at hi; exact hi)
set_option maxRecDepth 100000 in
set_option maxHeartbeats 2000000 in
theorem irune_wide (T : ByteArray) (hT : T.size = 10) (hA : ∀ k (h : k < T.size), T[k].toNat < 128) (r : Nat) (w : World) (h1 : 128 ≤ r) (h2 : r ≤ 1114111) :
    Calls Tryz.prog 200 #[.string T, .int .i32 (r : Int)] w fun e w' => e = .returned (.int .i64 (-1)) ∧ Below w.heap.size w w' := by
  have g1 : ¬ ((r : Int) < 128) := by omega
  have g0 : (0 : Int) ≤ (r : Int) := by omega
  by_cases h5 : r = 65533
  · have h6 : ((r : Int) == 65533) = true := by rw [beq_iff_eq]; omega
    have HA := hid hA
    have HT := hid hT
    clear hA hT
    go_enter Tryz.func200, Tryz.ntmps200
    go_wp2_with fail
    go_loopg [] 10 (fun gk wx => ∃ k : Nat, k ≤ 10 ∧ 10 ≤ k + gk ∧ wx.heap[w.heap.size]? = some (.stringIter T k) ∧ Hid (Below w.heap.size w wx))
    case atStart => exact ⟨0, Nat.zero_le _, by omega, World.iter_heap w _ 0, (Below.refl _ _).alloc (Nat.le_refl _) _⟩
    case round =>
      obtain ⟨k, hk, hg, hit, HB⟩ := hrel
      by_cases hlt : k < T.size
      · have hlt10 : k < 10 := by rw [HT.out] at hlt; exact hlt
        have ha := HA.out k hlt
        have hnx : ∀ ty, (Instr.next (.pointer (some ⟨w.heap.size, 0, none⟩)) true ty).run Tryz.prog wr = _ := fun ty => Lib.run_next_ascii_at wr w.heap.size _ k ty hit hlt ha
        have HB2 := hid (Lib.below_iterAt HB.out (k := w.heap.size) (Nat.le_refl _) T (k + 1))
        have HI2 := hid (Lib.iterAt_heap wr w.heap.size _ k (k + 1) hit)
        obtain ⟨g', rfl⟩ : ∃ g', gk = g' + 1 := ⟨gk - 1, by omega⟩
        have h7 : ((T[k].toNat : Int) == 65533) = false := by rw [beq_eq_false_iff_ne]; omega
        clear hit HB
        go_wp2_with fail
        go_roundg g'
        case measure => omega
        case rel => exact ⟨k + 1, hlt10, by omega, HI2.out, HB2.out⟩
      · have hnx : ∀ ty, (Instr.next (.pointer (some ⟨w.heap.size, 0, none⟩)) true ty).run Tryz.prog wr = _ := fun ty => Lib.run_next_end_at wr w.heap.size _ k ty hit hlt
        clear hit
        go_wp2_with fail
        go_ret
        exact ⟨rfl, HB.out⟩
  · have h6 : ((r : Int) == 65533) = false := by rw [beq_eq_false_iff_ne]; omega
    have CV := hid (fun X => Tryz.utf8_ValidRune (r : Int) X)
    obtain ⟨v, hv⟩ : ∃ v, Lib.validRune (r : Int) = v := ⟨_, rfl⟩
    rw [hv] at CV
    cases v with
    | false =>
      go_enter Tryz.func200, Tryz.ntmps200
      go_wp2_with (go_at_call 232; go_must (refine (CV.out _).mono ?_; rintro e w1 ⟨rfl, rfl⟩))
      go_ret
      exact ⟨rfl, Below.refl _ _⟩
    | true =>
      obtain ⟨z2, z4, hl⟩ := encode_facts (r : Int) (by rw [validRune_eq]; exact hv) (by omega)
      clear hv
      obtain ⟨m, hm⟩ : ∃ m, Utf8.encode (r : Int) = m := ⟨_, rfl⟩
      rw [hm] at z2 z4
      have hl2 : ∀ k (h : k < m.size), k + 1 = m.size → 128 ≤ m[k].toNat := by
        rw [← hm]
        intro k h hk
        have e : (Utf8.encode (r : Int)).size - 1 = k := by omega
        simp only [e] at hl
        exact hl h
      clear hl
      obtain ⟨l, hl⟩ : ∃ l, m.size = l + 1 := ⟨m.size - 1, by omega⟩
      have z1 : 1 ≤ l ∧ l ≤ 3 := by omega
      clear z2 z4
      obtain ⟨z1, z3⟩ := z1
      have hlt : l < m.size := by omega
      have hb := hl2 l hlt (by omega)
      have hlT : l < T.size := by omega
      have ha := hA l hlT
      have hb2 : ((T[l].toNat : Int) != (m[l].toNat : Int)) = true := by rw [bne_iff_ne]; omega
      have CI := hid (fun X => ten_ix T hA (l + 1) T.size m[l] hb X)
      clear hl2 hA
      go_enter Tryz.func200, Tryz.ntmps200
      go_wp2_with (go_at_call 232; go_must (refine (CV.out _).mono ?_; rintro e w1 ⟨rfl, rfl⟩))
      go_step3
      go_wp2_with fail
      go_loopw [9] (fun i wx => i = .int .i64 (l : Int) ∧ wx = w1) (fun _ _ => 0)
      case atStart => exact ⟨val_int (by omega), rfl⟩
      case round =>
        obtain ⟨rfl, rfl⟩ := hrel
        have HL := hid hl
        have hT10 : T.size ≤ 10 := by omega
        clear hl hT hm h5 z3 z1 h1 h2 hb ha
        go_wp2_with fail
        go_step3
        go_wp2_with fail
        go_quiet (fail)
        go_wp2_with fail
        go_quiet ((go_at_call 106; exact (CI.out _).mono (by rintro e w5 ⟨rfl, rfl⟩; exact ⟨rfl, _, rfl⟩)))
        go_wp2_with fail
        rw [Exit.noGoto_ret]
        go_wp2_with fail
        rw [Exit.noGoto_ret]
        go_wp2_with fail
        go_ret
        exact ⟨rfl, below_drewN (Below.refl _ _) _⟩
/-- nought for each digit, any other letter as it is -/
def nouI (x : Int) : Int := if 48 ≤ x ∧ x ≤ 57 then 48 else x
theorem ten_ascii : ∀ n, n < 128 → (decide (0 ≤ Lib.indexByte (⟨#[48, 49, 50, 51, 52, 53, 54, 55, 56, 57]⟩ : ByteArray).data.toList (Int.toNat ((n : Nat) : Int)).toUInt8)) = decide (48 ≤ n ∧ n ≤ 57) := by decide +kernel
set_option maxRecDepth 100000 in
set_option maxHeartbeats 1000000 in
theorem crune_ten (r : Nat) (w : World) (h2 : r ≤ 1114111) :
    Calls Tryz.prog 209 #[.string ⟨#[48, 49, 50, 51, 52, 53, 54, 55, 56, 57]⟩, .int .i32 (r : Int)] w fun e w' => e = .returned (.bool (decide (48 ≤ r ∧ r ≤ 57))) ∧ Below w.heap.size w w' := by
  obtain ⟨T, hT⟩ : ∃ T, (⟨#[48, 49, 50, 51, 52, 53, 54, 55, 56, 57]⟩ : ByteArray) = T := ⟨_, rfl⟩
  by_cases h : r < 128
  · have C := hid (fun X => Tryz.strings_IndexRune_ascii T (r : Int) X (by omega) (by omega))
    have e := ten_ascii r h
    rw [hT] at e ⊢
    obtain ⟨R, hR⟩ : ∃ R, Lib.indexByte T.data.toList ((r : Int)).toNat.toUInt8 = R := ⟨_, rfl⟩
    rw [hR] at C e
    have HE := hid e
    clear hR hT e
    go_enter Tryz.func209, Tryz.ntmps209
    go_wp2_with (go_at_call 200; go_must (refine (C.out _).mono ?_; rintro e w1 ⟨rfl, rfl⟩))
    go_ret
    exact ⟨ret_bool HE.out, Below.refl _ _⟩
  · have C := hid (fun X => irune_wide T (by rw [← hT]; rfl) (by subst hT; decide) r X (by omega) h2)
    have HE := hid (show decide (48 ≤ r ∧ r ≤ 57) = false from decide_eq_false (by omega))
    rw [hT]
    clear hT
    go_enter Tryz.func209, Tryz.ntmps209
    go_wp2_with (go_at_call 200; go_must (refine (C.out _).mono ?_; rintro e w1 ⟨rfl, hb⟩))
    go_ret
    exact ⟨ret_bool HE.out.symm, hb⟩
set_option maxRecDepth 100000 in
set_option maxHeartbeats 1000000 in
theorem nought_any (r : Nat) (w : World) (h2 : r ≤ 1114111) :
    Calls Tryz.prog 169 #[.int .i32 (r : Int)] w fun e w' => e = .returned (.int .i32 (nouI r)) ∧ Below w.heap.size w w' := by
  have C := hid (fun X => crune_ten r X h2)
  by_cases h : 48 ≤ r ∧ r ≤ 57
  · have HE := hid (show nouI r = 48 by unfold nouI; rw [if_pos (by omega)])
    rw [decide_eq_true h] at C
    go_enter Tryz.func169, Tryz.ntmps169
    go_wp2_with (go_at_call 209; go_must (refine (C.out _).mono ?_; rintro e w1 ⟨rfl, hb⟩))
    go_ret
    exact ⟨ret_int HE.out.symm, hb⟩
  · have HE := hid (show nouI r = r by unfold nouI; rw [if_neg (by omega)])
    rw [decide_eq_false h] at C
    clear h
    go_enter Tryz.func169, Tryz.ntmps169
    go_wp2_with (go_at_call 209; go_must (refine (C.out _).mono ?_; rintro e w1 ⟨rfl, hb⟩))
    go_ret
    exact ⟨ret_int HE.out.symm, hb⟩
end Go.Proofs.YtkhjahpkbjafaaaGreatDoor
