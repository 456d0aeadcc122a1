
import Derived.Test.YtjcgkihkjjaefaaGreatDoorKVInS
import Derived.Test.YtjcgkihkjjaefaaGreatDoorKFlF
import Derived.Test.YtjcgkihkjjaefaaGreatDoorKCeB
/- flat.names and flat.row, walked. -/
namespace Go.Proofs.YtjcgkihkjjaefaaGreatDoor
open Go.RowKit

theorem Tryz.madeS (n : Nat) (h : n ≤ 1000001) (w : World) : (Instr.makeSlice 23 (.int .i64 (n : Int)) (.int .i64 (n : Int))).run Tryz.prog w = .ok (.slice (some ⟨w.heap.size, 0, none⟩) n n) (w.alloc (.cells (madeCells #[.string ⟨#[]⟩] n) 9)) := by
  obtain ⟨i, hi, hz⟩ := Option.map_eq_some_iff.1 (show (Tryz.prog.info? 9).map (fun i => (i.zero, i.size, i.bytes)) = some (some (.string ⟨#[]⟩), 1, 16) by kernel_rfl)
  simp only [Prod.mk.injEq] at hz
  obtain ⟨hz, hs, hb⟩ := hz
  have := run_make (P := Tryz.prog) w 23 9 i _ Tryz.underlying23 hi hz .i64 .i64 n n (by omega) (Int.le_refl _) (by rw [hb]; omega) (by omega)
  rw [hs] at this
  simp only [Int.toNat_natCast, Nat.mul_one] at this
  exact this
/-- a list of strings being filled -/
structure Fil (w wr : World) (n : Nat) (K : List ByteArray) : Prop where
  bel : Below w.heap.size w wr
  own : wr.ownsRow w.heap.size 9 1 (.slice (some ⟨w.heap.size, 0, none⟩) n n) n (K.map Value.string)
theorem Fil.onto {w wr wr' : World} {n : Nat} {K : List ByteArray} (h : Fil w wr n K) (hb : Below wr.heap.size wr wr') : Fil w wr' n K := ⟨vonto h.bel hb, ownsRow_below h.own hb⟩
theorem Fil.new (w : World) (n : Nat) (h : n ≤ 1000001) : Fil w (w.alloc (.cells (madeCells #[.string ⟨#[]⟩] n) 9)) n (List.replicate n ⟨#[]⟩) := by
  refine ⟨valloc_bel (Below.refl _ _) _, ?_⟩
  have := World.ownsRow_lit (e := 9) (size := 1) (base := w.heap.size) w (madeCells #[.string ⟨#[]⟩] n) n (Nat.le_refl _) (by unfold maxLen; omega) (by rw [size_madeCells]; omega)
  rw [toList_madeCells_one] at this
  rw [List.map_replicate]; exact this
theorem Fil.len {w wr : World} {n : Nat} {K : List ByteArray} (h : Fil w wr n K) : K.length = n := by have := h.own.1; simp at this; omega
theorem Fil.set {w wr : World} {n : Nat} {K : List ByteArray} (h : Fil w wr n K) (j : Nat) (c : ByteArray) : Fil w (wr.setCell ⟨w.heap.size, j, none⟩ (.string c)) n (K.set j c) := by
  refine ⟨vset_bel h.bel (Nat.le_refl _), ?_⟩
  have := (h.own.stored j (.string c)).1
  rw [List.map_set]; exact this
theorem Fil.cell {w wr : World} {n : Nat} {K : List ByteArray} (h : Fil w wr n K) {j : Nat} (hj : j < n) : ∃ c, wr.cell? ⟨w.heap.size, j, none⟩ = some (.string c) := by
  have hl := h.len
  refine ⟨K[j], ?_⟩
  rw [h.own.cellAt j (by omega), List.getElem?_map, List.getElem?_eq_getElem (by omega)]; rfl
/-- a slice of strings of one's own -/
structure StrO (w wr : World) (K : List ByteArray) (v : Value) : Prop where
  own : wr.ownsRow w.heap.size 9 1 v K.length (K.map Value.string)
  sm : ∀ c ∈ K, c.size ≤ maxLen
theorem StrO.onto {w wr wr' : World} {K : List ByteArray} {v : Value} (h : StrO w wr K v) (hb : Below wr.heap.size wr wr') : StrO w wr' K v := ⟨ownsRow_below h.own hb, h.sm⟩
theorem Fil.stro {w wr : World} {n : Nat} {K : List ByteArray} (h : Fil w wr n K) (hl : K.length = n) (hk : ∀ c ∈ K, c.size ≤ maxLen) : StrO w wr K (.slice (some ⟨w.heap.size, 0, none⟩) n n) := ⟨by rw [hl]; exact h.own, hk⟩
/-- a column's name -/
def nmP (p : List PStep) : ByteArray := mkS ((textP p).drop 1)
def nmL (C : List (List PStep)) (j : Nat) : List ByteArray := (C.take j).map nmP ++ List.replicate (C.length - j) ⟨#[]⟩
theorem nmL_set {C : List (List PStep)} {j : Nat} {p : List PStep} (h : C[j]? = some p) : (nmL C j).set j (nmP p) = nmL C (j + 1) := by
  have hj := lt_of_some h
  unfold nmL
  rw [List.set_append_right _ _ (by simp; omega), List.length_map, List.length_take, Nat.min_eq_left (by omega), Nat.sub_self, show C.length - j = (C.length - (j + 1)) + 1 by omega, List.replicate_succ, List.set_cons_zero, List.take_add_one, h]
  simp
theorem nmL_end (C : List (List PStep)) : nmL C C.length = C.map nmP := by unfold nmL; simp
theorem small_frm {p : List PStep} {m : Nat} (h : ∀ s ∈ p, Small s) (hl : p.length ≤ m) : (textP p).length ≤ m * 2000003 := Nat.le_trans (textP_len p h) (Nat.mul_le_mul_right _ hl)
set_option maxRecDepth 100000 in
set_option maxHeartbeats 4000000 in
theorem names_any (C : List (List PStep)) (v : Value) (w : World) (hC : InC w C v) (hg : Glob5 w) (hs : ∀ p ∈ C, (∀ s ∈ p, Small s) ∧ p.length ≤ 100 ∧ 0 < p.length) (hl : C.length ≤ 1000000) :
    Calls Tryz.prog 23 #[v] w fun e w' => ∃ u, e = .returned u ∧ StrO w w' (C.map nmP) u ∧ Below w.heap.size w w' := by
  obtain ⟨a, ⟨o, cap, rfl, h1, h2, h3⟩, hc⟩ := hC
  unfold maxLen at h2
  have HC := hid hc
  have HS := hid hs
  have HG := hid hg
  have hmk := Tryz.madeS C.length (by omega) w
  have HN0 := hid (Fil.new w C.length (by omega))
  clear hc hs hg
  go_enter Tryz.func23, Tryz.ntmps23
  go_wp2_with fail
  generalize w.alloc (.cells (madeCells #[.string ⟨#[]⟩] C.length) 9) = w0 at *
  go_loopw [11] (fun i wr => ∃ j : Nat, i = .int .i64 j ∧ j ≤ C.length ∧ Hid (Fil w wr C.length (nmL C j))) (fun i _ => C.length - (intOf i).toNat)
  case atStart => exact ⟨0, rfl, Nat.zero_le _, hid (by have := HN0.out; unfold nmL; simpa using this)⟩
  case round =>
    clear HN0
    obtain ⟨j, rfl, hj, HF⟩ := hrel
    by_cases hlt : j < C.length
    · obtain ⟨p, hp⟩ : ∃ p, C[j]? = some p := ⟨C[j], List.getElem?_eq_getElem hlt⟩
      obtain rfl := h3 (by omega)
      obtain ⟨u, hu, hip⟩ := HC.out j p hp
      have hu' := keepCell HF.out.bel hu
      obtain ⟨ou, cu, rfl⟩ := inp_slice hip
      obtain ⟨hsm, hpl, hp0⟩ := HS.out p (List.mem_of_getElem? hp)
      have CT := hid (ptext_any p _ wr (hip.onto HF.out.bel) (HG.out.on HF.out.bel) (by omega) hsm)
      have htl := small_frm hsm hpl
      have hne : 1 ≤ (textP p).length := by
        cases p with
        | nil => simp at hp0
        | cons s r => show 1 ≤ ((47 :: stepT s) ++ _).length; simp
      obtain ⟨t, ht⟩ : ∃ t, mkS (textP p) = t := ⟨_, rfl⟩
      have hts : t.size = (textP p).length := by rw [← ht]; show ((textP p).toArray).size = _; simp
      have HNM := hid (show t.extract 1 t.size = nmP p by
        unfold nmP
        rw [← ht]
        apply ba_eq
        rw [drop_list]; simp [mkS])
      have HP := hid hp
      rw [ht] at CT
      have htl2 : t.size ≤ 200000300 := by omega
      have hts1 : 1 ≤ t.size := by omega
      clear hu hip hsm hp ht hts htl hne hpl hp0
      go_wp2_with fail
      go_at_call 42
      refine CT.out.mono ?_
      rintro e w2 ⟨rfl, hb2⟩
      have HF2 := hid (HF.out.onto hb2)
      obtain ⟨c, hcell⟩ := HF2.out.cell hlt
      have hfz := HF2.out.own.frozenAt j
      clear hb2
      go_wp2_with fail
      go_roundw
      case rel => exact ⟨j + 1, val_int (by omega), hlt, hid (by have := HF2.out.set j (nmP p); rw [nmL_set HP.out] at this; rw [HNM.out]; exact this)⟩
      case measure => simp [intOf]; omega
    · have hjn : j = C.length := by omega
      subst hjn
      rw [nmL_end] at HF
      have HSZ : Hid (∀ c ∈ C.map nmP, c.size ≤ maxLen) := hid (fun c hc => by
        obtain ⟨p, hp, rfl⟩ := List.mem_map.1 hc
        obtain ⟨a1, a2, -⟩ := HS.out p hp
        have := small_frm a1 a2
        unfold maxLen
        have e : (nmP p).size = (textP p).length - 1 := by show (((textP p).drop 1).toArray).size = _; simp
        omega)
      go_wp2_with fail
      go_ret
      exact ⟨_, rfl, HF.out.stro (by simp) HSZ.out, HF.out.bel⟩
end Go.Proofs.YtjcgkihkjjaefaaGreatDoor
