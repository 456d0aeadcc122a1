
import Derived.Test.YtadbeodeiijhdaaGreatDoorFOwnB
import Derived.Test.YtadbeodeiijhdaaGreatDoorFFlF
import Derived.Test.YtadbeodeiijhdaaGreatDoorFCeB
import Derived.Test.YtadbeodeiijhdaaGreatDoorFMathSame
/- flat.names and flat.row, walked. -/
namespace Go.Proofs.YtadbeodeiijhdaaGreatDoor
open Go.RowKit

theorem Tryz.madeS (n : Nat) (h : n ≤ 1000001) (w : World) : (Instr.makeSlice 42 (.int .i64 (n : Int)) (.int .i64 (n : Int))).run Tryz.prog w = .ok (.slice (some ⟨w.heap.size, 0, none⟩) n n) (w.alloc (.cells (madeCells #[.string ⟨#[]⟩] n) 9)) := by
  obtain ⟨i, hi, hz⟩ := Option.map_eq_some_iff.1 (show (Tryz.prog.info? 9).map (fun i => (i.zero, i.size, i.bytes)) = some (some (.string ⟨#[]⟩), 1, 16) by kernel_rfl)
  simp only [Prod.mk.injEq] at hz
  obtain ⟨hz, hs, hb⟩ := hz
  have := run_make (P := Tryz.prog) w 42 9 i _ Tryz.underlying42 hi hz .i64 .i64 n n (by omega) (Int.le_refl _) (by rw [hb]; omega) (by omega)
  rw [hs] at this
  simp only [Int.toNat_natCast, Nat.mul_one] at this
  exact this
/-- a list of strings being filled -/
structure Fil (w wr : World) (n : Nat) (K : List ByteArray) : Prop where
  bel : Below w.heap.size w wr
  own : wr.ownsRow w.heap.size 9 1 (.slice (some ⟨w.heap.size, 0, none⟩) n n) n (K.map Value.string)
theorem Fil.onto {w wr wr' : World} {n : Nat} {K : List ByteArray} (h : Fil w wr n K) (hb : Below wr.heap.size wr wr') : Fil w wr' n K := ⟨vonto h.bel hb, ownsRow_below h.own hb⟩
theorem Fil.new (w : World) (n : Nat) (h : n ≤ 1000001) : Fil w (w.alloc (.cells (madeCells #[.string ⟨#[]⟩] n) 9)) n (List.replicate n ⟨#[]⟩) := by
  refine ⟨valloc_bel (Below.refl _ _) _, ?_⟩
  have := World.ownsRow_lit (e := 9) (size := 1) (base := w.heap.size) w (madeCells #[.string ⟨#[]⟩] n) n (Nat.le_refl _) (by unfold maxLen; omega) (by rw [size_madeCells]; omega)
  rw [toList_madeCells_one] at this
  rw [List.map_replicate]; exact this
theorem Fil.len {w wr : World} {n : Nat} {K : List ByteArray} (h : Fil w wr n K) : K.length = n := by have := h.own.1; simp at this; omega
theorem Fil.set {w wr : World} {n : Nat} {K : List ByteArray} (h : Fil w wr n K) (j : Nat) (c : ByteArray) : Fil w (wr.setCell ⟨w.heap.size, j, none⟩ (.string c)) n (K.set j c) := by
  refine ⟨vset_bel h.bel (Nat.le_refl _), ?_⟩
  have := (h.own.stored j (.string c)).1
  rw [List.map_set]; exact this
theorem Fil.cell {w wr : World} {n : Nat} {K : List ByteArray} (h : Fil w wr n K) {j : Nat} (hj : j < n) : ∃ c, wr.cell? ⟨w.heap.size, j, none⟩ = some (.string c) := by
  have hl := h.len
  refine ⟨K[j], ?_⟩
  rw [h.own.cellAt j (by omega), List.getElem?_map, List.getElem?_eq_getElem (by omega)]; rfl
theorem Fil.ins {w wr : World} {n : Nat} {K : List ByteArray} (h : Fil w wr n K) (hn : n ≤ 1000001) (hk : ∀ c ∈ K, c.size ≤ maxLen) : InS wr K (.slice (some ⟨w.heap.size, 0, none⟩) n n) := by
  have hl := h.len
  refine ⟨⟨w.heap.size, 0, none⟩, ⟨_, n, by rw [hl], by omega, by unfold maxLen; omega, fun _ => rfl⟩, fun i c hc => ⟨?_, hk c (List.mem_of_getElem? hc)⟩⟩
  have hi := lt_of_some hc
  rw [add_at, h.own.cellAt i (by omega), List.getElem?_map, hc]; rfl
/-- a slice of strings of one's own -/
structure StrO (w wr : World) (K : List ByteArray) (v : Value) : Prop where
  own : wr.ownsRow w.heap.size 9 1 v K.length (K.map Value.string)
  sm : ∀ c ∈ K, c.size ≤ maxLen
theorem StrO.ins {w wr : World} {K : List ByteArray} {v : Value} (h : StrO w wr K v) : InS wr K v := by
  have hc := h.own
  rcases hc with ⟨-, ⟨rfl, h0⟩ | ⟨g, cap, cur, rfl, -, -, hn, hcm, -, -⟩⟩
  · have : K = [] := List.eq_nil_of_length_eq_zero h0
    subst this
    exact ⟨⟨0, 0, none⟩, ⟨none, 0, rfl, Nat.le_refl _, Nat.zero_le _, fun h => absurd h (by simp)⟩, fun i s h => by simp at h⟩
  · refine ⟨⟨g, 0, none⟩, ⟨_, _, rfl, hn, hcm, fun _ => rfl⟩, fun i c hc => ⟨?_, h.sm c (List.mem_of_getElem? hc)⟩⟩
    have hi := lt_of_some hc
    rw [add_at, h.own.cellAt i (by omega), List.getElem?_map, hc]; rfl
theorem StrO.onto {w wr wr' : World} {K : List ByteArray} {v : Value} (h : StrO w wr K v) (hb : Below wr.heap.size wr wr') : StrO w wr' K v := ⟨ownsRow_below h.own hb, h.sm⟩
theorem Fil.stro {w wr : World} {n : Nat} {K : List ByteArray} (h : Fil w wr n K) (hl : K.length = n) (hk : ∀ c ∈ K, c.size ≤ maxLen) : StrO w wr K (.slice (some ⟨w.heap.size, 0, none⟩) n n) := ⟨by rw [hl]; exact h.own, hk⟩
/-- a column's name -/
def nmP (p : List PStep) : ByteArray := mkS ((textP p).drop 1)
def nmL (C : List (List PStep)) (j : Nat) : List ByteArray := (C.take j).map nmP ++ List.replicate (C.length - j) ⟨#[]⟩
theorem nmL_set {C : List (List PStep)} {j : Nat} {p : List PStep} (h : C[j]? = some p) : (nmL C j).set j (nmP p) = nmL C (j + 1) := by
  have hj := lt_of_some h
  unfold nmL
  rw [List.set_append_right _ _ (by simp; omega), List.length_map, List.length_take, Nat.min_eq_left (by omega), Nat.sub_self, show C.length - j = (C.length - (j + 1)) + 1 by omega, List.replicate_succ, List.set_cons_zero, List.take_add_one, h]
  simp
theorem nmL_end (C : List (List PStep)) : nmL C C.length = C.map nmP := by unfold nmL; simp
theorem small_frm {p : List PStep} {m : Nat} (h : ∀ s ∈ p, Small s) (hl : p.length ≤ m) : (textP p).length ≤ m * 2000003 := Nat.le_trans (textP_len p h) (Nat.mul_le_mul_right _ hl)
set_option maxRecDepth 100000 in
set_option maxHeartbeats 4000000 in
theorem names_any (C : List (List PStep)) (v : Value) (w : World) (hC : InC w C v) (hg : Glob5 w) (hs : ∀ p ∈ C, (∀ s ∈ p, Small s) ∧ p.length ≤ 100 ∧ 0 < p.length) (hl : C.length ≤ 1000000) :
    Calls Tryz.prog 36 #[v] w fun e w' => ∃ u, e = .returned u ∧ StrO w w' (C.map nmP) u ∧ Below w.heap.size w w' := by
  obtain ⟨a, ⟨o, cap, rfl, h1, h2, h3⟩, hc⟩ := hC
  unfold maxLen at h2
  have HC := hid hc
  have HS := hid hs
  have HG := hid hg
  have hmk := Tryz.madeS C.length (by omega) w
  have HN0 := hid (Fil.new w C.length (by omega))
  clear hc hs hg
  go_enter Tryz.func36, Tryz.ntmps36
  go_wp2_with fail
  generalize w.alloc (.cells (madeCells #[.string ⟨#[]⟩] C.length) 9) = w0 at *
  go_loopw [11] (fun i wr => ∃ j : Nat, i = .int .i64 j ∧ j ≤ C.length ∧ Hid (Fil w wr C.length (nmL C j))) (fun i _ => C.length - (intOf i).toNat)
  case atStart => exact ⟨0, rfl, Nat.zero_le _, hid (by have := HN0.out; unfold nmL; simpa using this)⟩
  case round =>
    clear HN0
    obtain ⟨j, rfl, hj, HF⟩ := hrel
    by_cases hlt : j < C.length
    · obtain ⟨p, hp⟩ : ∃ p, C[j]? = some p := ⟨C[j], List.getElem?_eq_getElem hlt⟩
      obtain rfl := h3 (by omega)
      obtain ⟨u, hu, hip⟩ := HC.out j p hp
      have hu' := keepCell HF.out.bel hu
      obtain ⟨ou, cu, rfl⟩ := inp_slice hip
      obtain ⟨hsm, hpl, hp0⟩ := HS.out p (List.mem_of_getElem? hp)
      have CT := hid (ptext_any p _ wr (hip.onto HF.out.bel) (HG.out.on HF.out.bel) (by omega) hsm)
      have htl := small_frm hsm hpl
      have hne : 1 ≤ (textP p).length := by
        cases p with
        | nil => simp at hp0
        | cons s r => show 1 ≤ ((47 :: stepT s) ++ _).length; simp
      obtain ⟨t, ht⟩ : ∃ t, mkS (textP p) = t := ⟨_, rfl⟩
      have hts : t.size = (textP p).length := by rw [← ht]; show ((textP p).toArray).size = _; simp
      have HNM := hid (show t.extract 1 t.size = nmP p by
        unfold nmP
        rw [← ht]
        apply ba_eq
        rw [drop_list]; simp [mkS])
      have HP := hid hp
      rw [ht] at CT
      have htl2 : t.size ≤ 200000300 := by omega
      have hts1 : 1 ≤ t.size := by omega
      clear hu hip hsm hp ht hts htl hne hpl hp0
      go_wp2_with fail
      go_at_call 70
      refine CT.out.mono ?_
      rintro e w2 ⟨rfl, hb2⟩
      have HF2 := hid (HF.out.onto hb2)
      obtain ⟨c, hcell⟩ := HF2.out.cell hlt
      have hfz := HF2.out.own.frozenAt j
      clear hb2
      go_wp2_with fail
      go_roundw
      case rel => exact ⟨j + 1, val_int (by omega), hlt, hid (by have := HF2.out.set j (nmP p); rw [nmL_set HP.out] at this; rw [HNM.out]; exact this)⟩
      case measure => simp [intOf]; omega
    · have hjn : j = C.length := by omega
      subst hjn
      rw [nmL_end] at HF
      have HSZ : Hid (∀ c ∈ C.map nmP, c.size ≤ maxLen) := hid (fun c hc => by
        obtain ⟨p, hp, rfl⟩ := List.mem_map.1 hc
        obtain ⟨a1, a2, -⟩ := HS.out p hp
        have := small_frm a1 a2
        unfold maxLen
        have e : (nmP p).size = (textP p).length - 1 := by show (((textP p).drop 1).toArray).size = _; simp
        omega)
      go_wp2_with fail
      go_ret
      exact ⟨_, rfl, HF.out.stro (by simp) HSZ.out, HF.out.bel⟩
end Go.Proofs.YtadbeodeiijhdaaGreatDoor
/- flat.row and flat.listOfMaps, walked. -/
namespace Go.Proofs.YtadbeodeiijhdaaGreatDoor
open Go.RowKit

/-- a leaf's cell -/
def cellP (T : VT) : ByteArray := if celB T = true then mkS (celW T) else ⟨#[]⟩
def rowF (l : List (List PStep × VT)) (C : List (List PStep)) (R : List ByteArray) : List ByteArray := l.foldl (fun R e => R.set (posC C e.1) (cellP e.2)) R
def rowM (l : List (List PStep × VT)) (C : List (List PStep)) : List ByteArray := rowF l C (List.replicate C.length ⟨#[]⟩)
theorem rowF_len : ∀ (l : List (List PStep × VT)) (C : List (List PStep)) (R : List ByteArray), (rowF l C R).length = R.length
  | [], _, _ => rfl
  | e :: l, C, R => by
    show (rowF l C (R.set _ _)).length = _
    rw [rowF_len l, List.length_set]
theorem rowM_len (l : List (List PStep × VT)) (C : List (List PStep)) : (rowM l C).length = C.length := by unfold rowM; rw [rowF_len]; simp
theorem rowF_snoc (l : List (List PStep × VT)) (e : List PStep × VT) (C : List (List PStep)) (R : List ByteArray) : rowF (l ++ [e]) C R = (rowF l C R).set (posC C e.1) (cellP e.2) := by unfold rowF; rw [List.foldl_append]; rfl
theorem mem_set_of {α : Type} {R : List α} {i : Nat} {c x : α} (h : x ∈ R.set i c) : x ∈ R ∨ x = c := by
  rcases List.mem_or_eq_of_mem_set h with h | h
  · exact .inl h
  · exact .inr h
theorem rowF_mem : ∀ (l : List (List PStep × VT)) (C : List (List PStep)) (R : List ByteArray) (x : ByteArray), x ∈ rowF l C R → x ∈ R ∨ ∃ e ∈ l, x = cellP e.2
  | [], _, _, _, h => .inl h
  | e :: l, C, R, x, h => by
    rcases rowF_mem l C _ x h with h | ⟨e', h1, h2⟩
    · rcases mem_set_of h with h | h
      · exact .inl h
      · exact .inr ⟨e, by simp, h⟩
    · exact .inr ⟨e', by simp [h1], h2⟩
set_option maxRecDepth 100000 in
set_option maxHeartbeats 4000000 in
theorem row_any (l : List (List PStep × VT)) (C : List (List PStep)) (lv cv : Value) (w : World) (hL : InLf w l lv) (hC : InC w C cv) (hg : GlobC5 w) (hm : ∀ e ∈ l, Mono C e.1 ∧ posC C e.1 < C.length ∧ (cellP e.2).size ≤ maxLen) (hl : C.length ≤ 1000000) :
    Calls Tryz.prog 37 #[lv, cv] w fun e w' => ∃ u, e = .returned u ∧ StrO w w' (rowM l C) u ∧ Below w.heap.size w w' := by
  obtain ⟨al, ⟨ol, cl, rfl, hl1, hl2, hl3⟩, hle⟩ := hL
  have HCC := hid hC
  obtain ⟨ac, ⟨oc, cc, rfl, -⟩, -⟩ := hC
  unfold maxLen at hl2
  have HLE := hid hle
  have HM := hid hm
  have HG := hid hg
  have hmk := Tryz.madeS C.length (by omega) w
  have HN0 := hid (Fil.new w C.length (by omega))
  clear hle hm hg
  go_enter Tryz.func37, Tryz.ntmps37
  go_wp2_with fail
  generalize w.alloc (.cells (madeCells #[.string ⟨#[]⟩] C.length) 9) = w0 at *
  go_loopw [15] (fun i wr => ∃ j : Nat, i = .int .i64 j ∧ j ≤ l.length ∧ Hid (Fil w wr C.length (rowM (l.take j) C))) (fun i _ => l.length - (intOf i).toNat)
  case atStart => exact ⟨0, rfl, Nat.zero_le _, HN0⟩
  case round =>
    clear HN0
    obtain ⟨k, rfl, hk, HF⟩ := hrel
    by_cases hlt : k < l.length
    · obtain ⟨e, he⟩ : ∃ e, l[k]? = some e := ⟨l[k], List.getElem?_eq_getElem hlt⟩
      obtain rfl := hl3 (by omega)
      obtain ⟨u, x, y, c0, c1, hip, hhv⟩ := HLE.out k e he
      have c0' := keepCell HF.out.bel c0
      obtain ⟨d0, d1, d2, d3, d4⟩ := c1.onto HF.out.bel
      obtain ⟨o1, n1, k1, o2, n2, k2, rfl, rfl⟩ := hv_slices hhv
      simp only [nx] at d0 d1 d2 d3 d4
      obtain ⟨hmo, hpos, hcs⟩ := HM.out e (List.mem_of_getElem? he)
      obtain ⟨p, hp⟩ : ∃ p, e.1 = p := ⟨_, rfl⟩
      obtain ⟨T, hT⟩ : ∃ T, e.2 = T := ⟨_, rfl⟩
      have HNX := hid (show rowM (l.take (k + 1)) C = (rowM (l.take k) C).set (posC C p) (cellP T) by
        unfold rowM
        rw [List.take_add_one, he]
        show rowF (l.take k ++ [e]) C _ = _
        rw [rowF_snoc, hp, hT])
      rw [hp] at hip hmo hpos
      rw [hT] at d0 d1 d2 hhv
      obtain ⟨ou, cu, rfl⟩ := inp_slice hip
      have HIP := hid hip
      have HBS := hid (fun (W : World) (hW : Below wr.heap.size wr W) => bsearch_any C p _ _ W (HCC.out.onto (vonto HF.out.bel hW)) (HIP.out.onto (vonto HF.out.bel hW)) hmo hl)
      have HTX := hid (fun (W : World) (hW : Below wr.heap.size wr W) => cetext_any T _ _ W (HG.out.on (vonto HF.out.bel hW)) (hhv.onto (vonto HF.out.bel hW)))
      have HCP : Hid (cellP T = if celB T = true then mkS (celW T) else ⟨#[]⟩) := hid rfl
      rw [← HCP.out] at HTX
      simp only [vv] at HTX
      obtain ⟨H0, hH0⟩ : ∃ H0, hasC C p = H0 := ⟨_, rfl⟩
      obtain ⟨P0, hP0⟩ : ∃ P0, posC C p = P0 := ⟨_, rfl⟩
      obtain ⟨B0, hB0⟩ : ∃ B0, celB T = B0 := ⟨_, rfl⟩
      obtain ⟨S0, hS0⟩ : ∃ S0, cellP T = S0 := ⟨_, rfl⟩
      rw [hH0] at HBS
      rw [hP0] at HBS hpos HNX
      rw [hB0, hS0] at HTX
      rw [hS0] at HNX
      clear c0 c1 hip hhv hp hT he hmo hcs hH0 hP0 hB0 hS0 HCP
      go_wp2_with fail
      go_at_call 67
      refine (HBS.out _ (valloc_bel (Below.refl _ _) _)).mono ?_
      rintro e' w2 ⟨rfl, hb2⟩
      have z1 : w2.cell? ⟨wr.heap.size, 1, none⟩ = some (.int .i64 T.kd) := keepCell hb2 (by simp)
      have z2 : w2.cell? ⟨wr.heap.size, 2, none⟩ = some (.int .i64 T.nm) := keepCell hb2 (by simp)
      have z3 : w2.cell? ⟨wr.heap.size, 3, none⟩ = some (.string T.st) := keepCell hb2 (by simp)
      have z4 : w2.cell? ⟨wr.heap.size, 4, none⟩ = some (.slice o1 n1 k1) := keepCell hb2 (by simp)
      have z5 : w2.cell? ⟨wr.heap.size, 5, none⟩ = some (.slice o2 n2 k2) := keepCell hb2 (by simp)
      have HB2 := hid (vonto (valloc_bel (Below.refl wr.heap.size wr) (.cells #[.slice ou p.length cu, .int .i64 T.kd, .int .i64 T.nm, .string T.st, .slice o1 n1 k1, .slice o2 n2 k2] 37)) hb2)
      clear hb2
      go_wp2_with fail
      go_at_call 71
      refine (HTX.out _ HB2.out).mono ?_
      rintro e' w3 ⟨rfl, hb3⟩
      have HF3 := hid (HF.out.onto (vonto HB2.out hb3))
      obtain ⟨c, hcell⟩ := HF3.out.cell hpos
      have hfz := HF3.out.own.frozenAt P0
      clear hb3 z1 z2 z3 z4 z5
      go_wp2_with fail
      go_roundw
      case rel => exact ⟨k + 1, val_int (by omega), hlt, hid (by have := HF3.out.set P0 S0; rw [← HNX.out] at this; exact this)⟩
      case measure => simp [intOf]; omega
    · have htk : l.take k = l := List.take_of_length_le (by omega)
      rw [htk] at HF
      clear htk
      have HSZ : Hid (∀ c ∈ rowM l C, c.size ≤ maxLen) := hid (fun c hc => by
        rcases rowF_mem _ _ _ _ hc with h | ⟨e, h1, rfl⟩
        · rw [List.mem_replicate] at h
          rw [h.2]; exact Nat.zero_le _
        · exact (HM.out e h1).2.2)
      go_wp2_with fail
      go_ret
      exact ⟨_, rfl, HF.out.stro (rowM_len l C) HSZ.out, HF.out.bel⟩
/-- a Good list of maps, none of them empty -/
def lomB (T : VT) : Bool := decide (T.kd = 5) && !T.ls.isEmpty && mayB 0 1 T && T.ls.all (fun t => decide (t.kd = 6) && !t.vs.isEmpty)
theorem all_not {α : Type} {f : α → Bool} {L : List α} {i : Nat} {t : α} (h : L[i]? = some t) (hf : f t = false) : L.all f = false := by
  rw [List.all_eq_false]; exact ⟨t, List.mem_of_getElem? h, by rw [hf]; decide⟩
set_option maxRecDepth 100000 in
set_option maxHeartbeats 4000000 in
theorem lom_any (T : VT) (x y : Value) (w : World) (hT : HV w T x y) (hg : Glob w) :
    Calls Tryz.prog 34 #[vv T x y] w fun e w' => e = .returned (.bool (lomB T)) ∧ Below w.heap.size w w' := by
  obtain ⟨R, hR⟩ : ∃ R, lomB T = R := ⟨_, rfl⟩
  rw [hR]
  have hb0 : ∀ o, Below w.heap.size w (w.alloc o) := fun o => valloc_bel (Below.refl _ _) o
  have HGD := hid (fun (X : World) (hX : Below w.heap.size w X) => vgood_any T x y X (hg.on hX) (hT.onto hX))
  obtain ⟨al, bl, f, g, p, q, oL, oM, cL, cM, rfl, rfl, -, -, hL3, hM3, hK, -, hlL, hlM, kL, kK, kM, rL, rM, -, -⟩ := hT.parts
  simp only [vv] at HGD ⊢
  have HkL := hid kL; have HrL := hid rL
  clear kL kK kM rL rM hK hT hg
  by_cases h5 : T.kd = 5
  · have t5 : (T.kd == 5) = true := by simpa using h5
    have t5' : (T.kd != 5) = false := by simpa using h5
    by_cases h0 : T.ls.length = 0
    · have hf : R = false := by
        rw [← hR]; unfold lomB
        rw [List.eq_nil_of_length_eq_zero h0]; simp
      subst hf
      clear hR HGD
      go_enter Tryz.func34, Tryz.ntmps34
      go_wp2_with fail
      go_ret
      exact ⟨rfl, hb0 _⟩
    · have e0 : T.ls.isEmpty = false := by cases hl : T.ls with | nil => simp [hl] at h0 | cons a r => rfl
      cases hgd : mayB 0 1 T with
      | false =>
        have hf : R = false := by rw [← hR]; unfold lomB; rw [hgd]; simp
        subst hf
        rw [hgd] at HGD
        obtain rfl := hL3 (by omega)
        clear hR hgd hL3 h5
        go_enter Tryz.func34, Tryz.ntmps34
        go_wp2_with (go_at_call 49; go_must (refine (HGD.out _ (hb0 _)).mono ?_; rintro e w2 ⟨rfl, hb2⟩))
        go_ret
        exact ⟨rfl, vonto (hb0 _) hb2⟩
      | true =>
        rw [hgd] at HGD
        have HR := hid (show R = T.ls.all (fun t => decide (t.kd = 6) && !t.vs.isEmpty) by
          rw [← hR]; unfold lomB; rw [hgd, e0, decide_eq_true h5]; simp)
        obtain rfl := hL3 (by omega)
        have hz4 := (good_sz hgd).1
        have hls4 := len_sz T
        have hls5 : T.ls.length ≤ 1000000 := by omega
        clear hR hgd h5 e0 hL3 hz4 hls4
        go_enter Tryz.func34, Tryz.ntmps34
        go_wp2_with fail
        go_at_call 49
        refine (HGD.out _ (hb0 _)).mono ?_
        rintro e w2 ⟨rfl, hb2⟩
        have z3 : w2.cell? ⟨w.heap.size, 3, none⟩ = some (.slice (some al) T.ls.length cL) := keepCell hb2 (by simp)
        have HB2 := hid (vonto (hb0 _) hb2)
        clear hb2 HGD
        go_wp2_with fail
        go_loopw [22] (fun i wr => ∃ j : Nat, i = .int .i64 j ∧ j ≤ T.ls.length ∧ Hid (∀ k t, k < j → T.ls[k]? = some t → (decide (t.kd = 6) && !t.vs.isEmpty) = true) ∧ Hid (Below w.heap.size w wr)) (fun i _ => T.ls.length - (intOf i).toNat)
        case atStart => exact ⟨0, rfl, Nat.zero_le _, fun k t h => absurd h (Nat.not_lt_zero _), HB2⟩
        case round =>
          obtain ⟨j, rfl, hj, HJ, HB⟩ := hrel
          by_cases hlt : j < T.ls.length
          · obtain ⟨t, ht⟩ : ∃ t, T.ls[j]? = some t := ⟨T.ls[j], List.getElem?_eq_getElem hlt⟩
            obtain ⟨d0, d1, d2, d3, d4⟩ := (HkL.out j t ht).onto HB.out
            obtain ⟨al', bl', -, -, -, -, oL', oM', cL', cM', hf, hg', -⟩ := (HrL.out j t ht).parts
            rw [hf] at d3
            rw [hg'] at d4
            have HTT := hid ht
            clear hf hg' ht
            by_cases h6 : t.kd = 6
            · have t6 : (t.kd == 6) = true := by simpa using h6
              have t6' : (t.kd != 6) = false := by simpa using h6
              by_cases hv0 : t.vs.length = 0
              · have hR0 : R = false := by
                  rw [HR.out]
                  refine all_not HTT.out ?_
                  rw [List.eq_nil_of_length_eq_zero hv0]; simp
                subst hR0
                go_wp2_with fail
                go_ret
                exact ⟨rfl, vonto HB.out (valloc_bel (Below.refl _ _) _)⟩
              · have HJ2 := hid (show ∀ k s, k < j + 1 → T.ls[k]? = some s → (decide (s.kd = 6) && !s.vs.isEmpty) = true from fun k s hk hs => by
                  by_cases e : k = j
                  · subst e; rw [HTT.out] at hs; cases hs
                    rw [decide_eq_true h6, Bool.true_and]
                    cases hl : t.vs with
                    | nil => simp [hl] at hv0
                    | cons a r => rfl
                  · exact HJ.out k s (by omega) hs)
                go_wp2_with fail
                go_roundw
                case rel => exact ⟨j + 1, val_int (by omega), hlt, HJ2, hid (vonto HB.out (valloc_bel (Below.refl _ _) _))⟩
                case measure => simp [intOf]; omega
            · have t6 : (t.kd == 6) = false := by simpa using h6
              have t6' : (t.kd != 6) = true := by simpa using h6
              have hR0 : R = false := by
                rw [HR.out]
                refine all_not HTT.out ?_
                rw [decide_eq_false h6]; rfl
              subst hR0
              go_wp2_with fail
              go_ret
              exact ⟨rfl, vonto HB.out (valloc_bel (Below.refl _ _) _)⟩
          · have hR0 : R = true := by
              rw [HR.out, List.all_eq_true]
              intro t ht
              obtain ⟨k, hk⟩ := List.getElem?_of_mem ht
              exact HJ.out k t (by have := lt_of_some hk; omega) hk
            subst hR0
            go_wp2_with fail
            go_ret
            exact ⟨rfl, HB.out⟩
  · have hf : R = false := by rw [← hR]; unfold lomB; rw [decide_eq_false h5]; rfl
    have t5 : (T.kd == 5) = false := by simpa using h5
    have t5' : (T.kd != 5) = true := by simpa using h5
    subst hf
    clear hR HGD
    go_enter Tryz.func34, Tryz.ntmps34
    go_wp2_with fail
    go_ret
    exact ⟨rfl, hb0 _⟩
end Go.Proofs.YtadbeodeiijhdaaGreatDoor
