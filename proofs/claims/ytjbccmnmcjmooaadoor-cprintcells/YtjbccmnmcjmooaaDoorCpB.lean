import Derived.Test.YtjbccmnmcjmooaaDoorCpA
import Derived.Test.YtjbccmnmcjmooaaDoorVInS
/- cprint.line. -/
namespace Go.Proofs.YtjbccmnmcjmooaaDoor
open Go.RowKit

theorem Tryd.pmade (n : Nat) (h : n ≤ 1000000) (w : World) : (Instr.makeSlice 24 (.int .i64 (n : Int)) (.int .i64 (n : Int))).run Tryd.prog w = .ok (.slice (some ⟨w.heap.size, 0, none⟩) n n) (w.alloc (.cells (madeCells #[.string ⟨#[]⟩] n) 9)) := by
  obtain ⟨i, hi, hz⟩ := Option.map_eq_some_iff.1 (show (Tryd.prog.info? 9).map (fun i => (i.zero, i.size, i.bytes)) = some (some (.string ⟨#[]⟩), 1, 16) by kernel_rfl)
  simp only [Prod.mk.injEq] at hz
  obtain ⟨hz, hs, hb⟩ := hz
  have := run_make (P := Tryd.prog) w 24 9 i _ Tryd.underlying24 hi hz .i64 .i64 n n (by omega) (Int.le_refl _) (by rw [hb]; omega) (by omega)
  rw [hs] at this
  simp only [Int.toNat_natCast, Nat.mul_one] at this
  exact this
theorem pjoin_len (M : Nat) : ∀ xs : List (List UInt8), (∀ x ∈ xs, x.length ≤ M) → (Lib.join xs [44]).length ≤ xs.length * (M + 1)
  | [], _ => by simp [Lib.join_nil]
  | [x], h => by have := h x (by simp); rw [Lib.join_one]; simp; omega
  | x :: y :: r, h => by
    have ih := pjoin_len M (y :: r) (fun z hz => h z (List.mem_cons_of_mem _ hz))
    have := h x (by simp)
    rw [join_two]
    simp only [List.length_append, List.length_cons, List.length_nil] at ih ⊢
    rw [Nat.add_mul (r.length + 1)]
    omega
/-- what the loop has written -/
def PFill (w : World) (b : Nat) (ks : List ByteArray) (al : Bool) (j : Nat) : Prop := ∀ k s, k < j → ks[k]? = some s → w.cell? ⟨b, k, none⟩ = some (.string (mkS (fldB s.data.toList al)))
theorem pfill_next {w w1 : World} {b m : Nat} {t : TypeId} {ks : List ByteArray} {al : Bool} {j : Nat} (h : PFill w b ks al j) (hb : w1.heap[b]? = w.heap[b]?) (hr : Row w1 b t m) (hm : j < m) {s : ByteArray} (hs : ks[j]? = some s) :
    PFill (w1.setCell ⟨b, j, none⟩ (.string (mkS (fldB s.data.toList al)))) b ks al (j + 1) := by
  intro k u hk hu
  by_cases e : k = j
  · subst e
    rw [hs] at hu; cases hu
    exact set_same hr hm _
  · have hk' : k < j := by omega
    rw [set_other _ _ _ _ _ _ (Or.inr (by omega))]
    have hc : w1.cell? ⟨b, k, none⟩ = w.cell? ⟨b, k, none⟩ := by simp only [World.cell?, hb]
    rw [hc]
    exact h k u hk' hu
set_option maxRecDepth 100000 in
set_option maxHeartbeats 1000000 in
theorem pline_any (ks : List ByteArray) (v : Value) (w : World) (hg : GlobC w) (h : InS w ks v) (hn : ks.length ≤ 100000) (hs : ∀ s ∈ ks, s.size ≤ 1000000) :
    Calls Tryd.prog 19 #[v] w fun e w' => e = .returned (.string (mkS (rowB (ks.map (·.data.toList))))) ∧ Below w.heap.size w w' := by
  obtain ⟨a, ⟨o, cap, rfl, hc1, hc2, ho⟩, hcell⟩ := h
  unfold maxLen at hc2
  obtain ⟨al, hal⟩ : ∃ al, decide (ks.length = 1) = al := ⟨_, rfl⟩
  have HAL := hid hal
  have CF := hid (fun (s : ByteArray) (hz : s ∈ ks) (b : Bool) (hb : b = al) (X : World) (hX : Below w.heap.size w X) => (show Calls Tryd.prog 10 #[.string s, .bool b] X fun e w' => e = .returned (.string (mkS (fldB s.data.toList al))) ∧ Below X.heap.size X w' from hb ▸ pfield_any s b X (hg.on hX) (hs s hz)))
  have hmk := Tryd.pmade ks.length (by omega)
  obtain ⟨xs, hxs⟩ : ∃ xs : List ByteArray, ks.map (fun s => mkS (fldB s.data.toList al)) = xs := ⟨_, rfl⟩
  have hxl : xs.length = ks.length := by rw [← hxs, List.length_map]
  have hxm : xs.map (·.data.toList) = (ks.map (·.data.toList)).map (fldB · al) := by
    rw [← hxs, List.map_map, List.map_map]
    exact List.map_congr_left fun s _ => by simp only [Function.comp, mkS_list]
  have HJ := hid (show ∀ X, w.heap.size < X.heap.size → PFill X w.heap.size ks al ks.length → Calls Tryd.prog 31 #[.slice (some ⟨w.heap.size, 0, none⟩) ks.length ks.length, .string ⟨#[44]⟩] X fun e w' => e = .returned (.string (mkS (Lib.join ((ks.map (·.data.toList)).map (fldB · al)) [44]))) ∧ Below X.heap.size X w' from fun X hX hP => by
    have := Tryd.strings_Join w.heap.size 0 ks.length xs ⟨#[44]⟩ X (fun j x hx => by
      rw [← hxs, List.getElem?_map] at hx
      cases hk : ks[j]? with
      | none => rw [hk] at hx; simp at hx
      | some s =>
        rw [hk] at hx
        simp only [Option.map_some, Option.some.injEq] at hx
        rw [Nat.zero_add, ← hx]
        exact hP j s (lt_of_some hk) hk) hX (by omega) (by omega) (by
      rw [hxm]
      have := pjoin_len 2000002 ((ks.map (·.data.toList)).map (fldB · al)) (fun x hx => by
        obtain ⟨y, hy, rfl⟩ := List.mem_map.1 hx
        obtain ⟨s, hs1, rfl⟩ := List.mem_map.1 hy
        have h1 := fldB_len s.data.toList al
        have h2 := hs s hs1
        rw [size_list] at h1; omega)
      rw [List.length_map, List.length_map] at this
      show (Lib.join _ [44]).length ≤ _
      omega)
    rw [hxl, hxm] at this
    exact this)
  have HR := hid (show mkS (Lib.join ((ks.map (·.data.toList)).map (fldB · al)) [44]) ++ (⟨#[13, 10]⟩ : ByteArray) = mkS (rowB (ks.map (·.data.toList))) from by
    unfold rowB
    rw [List.length_map, hal]
    exact mkS_of _ _ (by simp only [papp, mkS_list]))
  have hjz : (mkS (Lib.join ((ks.map (·.data.toList)).map (fldB · al)) [44])).size ≤ 300000000000 := by
    have := pjoin_len 2000002 ((ks.map (·.data.toList)).map (fldB · al)) (fun x hx => by
        obtain ⟨y, hy, rfl⟩ := List.mem_map.1 hx
        obtain ⟨s, hs1, rfl⟩ := List.mem_map.1 hy
        have h1 := fldB_len s.data.toList al
        have h2 := hs s hs1
        rw [size_list] at h1; omega)
    rw [List.length_map, List.length_map] at this
    rw [mkS_size]; omega
  generalize mkS (Lib.join ((ks.map (·.data.toList)).map (fldB · al)) [44]) = J at HJ HR hjz
  generalize mkS (rowB (ks.map (·.data.toList))) = R at HR ⊢
  have HIN := hid (fun j (s : ByteArray) (h : ks[j]? = some s) => List.mem_of_getElem? h)
  clear hg hs hal hxs hxl hxm
  go_enter Tryd.func19, Tryd.ntmps19
  go_wp2_with fail
  have hz : (madeCells #[.string ⟨#[]⟩] ks.length).size = ks.length := size_madeCells _ _
  have HNEW := hid (Row.new w (madeCells #[.string ⟨#[]⟩] ks.length) 9)
  rw [hz] at HNEW
  clear hz
  generalize madeCells #[.string ⟨#[]⟩] ks.length = cells at HNEW ⊢
  have hbA := valloc_bel (Below.refl w.heap.size w) (.cells cells 9)
  generalize hA : w.alloc (.cells cells 9) = A at HNEW hbA ⊢
  have hAz : A.heap.size = w.heap.size + 1 := by rw [← hA]; simp
  have HBA := hid hbA
  clear hmk hA hbA
  go_loopw [11] (fun i wr => ∃ j : Nat, j ≤ ks.length ∧ i = .int .i64 j ∧ Hid (Below w.heap.size w wr) ∧ Hid (Row wr w.heap.size 9 ks.length) ∧ Hid (PFill wr w.heap.size ks al j)) (fun i _ => ks.length - (intOf i).toNat)
  case atStart => exact ⟨0, Nat.zero_le _, rfl, HBA.out, HNEW.out, fun k s h => absurd h (Nat.not_lt_zero _)⟩
  case round =>
    obtain ⟨j, hj, rfl, HB, HRW, HPF⟩ := hrel
    by_cases hlt : j < ks.length
    · obtain ⟨c, hc⟩ : ∃ c, ks[j]? = some c := ⟨ks[j], List.getElem?_eq_getElem hlt⟩
      obtain rfl := ho (by omega)
      have d0 := keepCell HB.out (hcell j c hc).1
      have C1 := hid (fun b hb => CF.out c (HIN.out j c hc) b hb wr HB.out)
      have HC := hid hc
      have HCE := hid hcell
      have hbs : w.heap.size < wr.heap.size := HRW.out.lt
      clear hc hcell CF
      go_wp2_with fail
      go_at_call 10
      refine (C1.out _ (by rw [← HAL.out, Bool.eq_iff_iff]; simp; omega)).mono ?_
      rintro e w1 ⟨rfl, hb1⟩
      have HR1 := hid (HRW.out.onto (hb1.block _ hbs))
      have HB1 := hid (vonto HB.out hb1)
      obtain ⟨u0, e0⟩ := HR1.out.cell (o := j) (by omega)
      have z0 := HR1.out.frozen
      have HN1 := hid (pfill_next HPF.out (hb1.block _ hbs) HR1.out hlt HC.out)
      clear hb1 C1
      go_wp2_with fail
      go_roundw
      case rel => exact ⟨j + 1, hlt, val_int (by omega), vset_bel HB1.out (Nat.le_refl _), HR1.out.set _ _, HN1.out⟩
      case measure => simp [intOf]; omega
    · obtain rfl : j = ks.length := by omega
      have C2 := hid (HJ.out wr HRW.out.lt HPF.out)
      clear hcell
      go_wp2_with fail
      go_at_call 31
      refine C2.out.mono ?_
      rintro e w1 ⟨rfl, hb1⟩
      have HB1 := hid (vonto HB.out hb1)
      clear hb1 C2
      go_wp2_with fail
      go_ret
      exact ⟨by rw [HR.out]; rfl, HB1.out⟩
end Go.Proofs.YtjbccmnmcjmooaaDoor
