import Derived.Test.YteimbjamnfkapaaGreatDoorCUnR
/- UnflatColumns, walked: a table's columns turned. -/
namespace Go.Proofs.YteimbjamnfkapaaGreatDoor
open Go.RowKit
def rotL {α : Type} (L : List α) (s : Nat) : List α := L.drop s ++ L.take s
theorem rot_perm {α : Type} (L : List α) (s : Nat) : (rotL L s).Perm L := by
 have h : (L.drop s ++ L.take s).Perm (L.take s ++ L.drop s) := List.perm_append_comm
 rw [List.take_append_drop] at h
 exact h
theorem rot_len {α : Type} (L : List α) (s : Nat) : (rotL L s).length = L.length := (rot_perm L s).length_eq
theorem rot_map {α β : Type} (f : α → β) (L : List α) (s : Nat) : rotL (L.map f) s = (rotL L s).map f := by
 unfold rotL
 rw [← List.map_drop, ← List.map_take, ← List.map_append]
theorem rot_at {α : Type} (L : List α) (t i : Nat) (h : i < L.length) : (rotL L (t % L.length))[i]? = L[(i + t) % L.length]? := by
 obtain ⟨n, hn⟩ : ∃ n, L.length = n := ⟨_, rfl⟩
 obtain ⟨s, hs⟩ : ∃ s, t % n = s := ⟨_, rfl⟩
 have hs2 : s < n := by rw [← hs]; exact Nat.mod_lt _ (by omega)
 have e : (i + t) % n = (i + s) % n := by rw [← hs, Nat.add_mod_mod]
 unfold rotL
 rw [hn, e, hs]
 rcases Nat.lt_or_ge (i + s) n with h1 | h1
 ·rw [Nat.mod_eq_of_lt h1, List.getElem?_append_left (by rw [List.length_drop]; omega), List.getElem?_drop, Nat.add_comm]
 ·have h2 : (i + s) % n = i + s - n := by
   rw [Nat.mod_eq_sub_mod h1, Nat.mod_eq_of_lt (by omega)]
  rw [h2, List.getElem?_append_right (by rw [List.length_drop]; omega), List.length_drop, List.getElem?_take_of_lt (by omega), show i - (L.length - s) = i + s - n by omega]
theorem up_rot {T : VT} (hw : wfT T) (he : flatE T = 0) (hq : ∀ t ∈ T.ls, ∀ z ∈ lfT t [], CelOk z.2) (s : Nat) : UP (rotL (flatH T) s) ((flatR T).map fun R => rotL R s) 0 0 0 T := by
 have hl : lomB T = true := by
  cases h : lomB T with
  | true => rfl
  | false => unfold flatE at he; rw [if_pos h] at he; cases he
 obtain ⟨-, hm, -⟩ := lom_parts hl
 have hG := flat_good hm hw
 have hnd : (flatC T).Nodup := by
  refine hG.s.imp (fun {a b} h e => ?_)
  subst e
  rw [cp_refl] at h; cases h
 unfold flatH flatR
 rw [if_pos he, if_pos he]
 unfold flatN
 rw [rot_map]
 refine up_back hl hw hq ((rot_perm _ s).nodup_iff.2 hnd) (fun p => (rot_perm _ s).mem_iff) (by unfold flatW flatX; simp) (fun i R t hi ht => ?_)
 unfold flatW flatX at hi
 rw [List.map_map, List.map_map, List.getElem?_map, ht] at hi
 simp only [Option.map_some, Option.some.injEq, Function.comp] at hi
 subst hi
 have hrow : rowM (lfT t []) (flatC T) = (flatC T).map (cellAt t) := by
  apply List.ext_getElem?
  intro k
  rw [List.getElem?_map]
  cases hk : (flatC T)[k]? with
  | none => rw [List.getElem?_eq_none (by rw [rowM_len]; exact List.getElem?_eq_none_iff.1 hk)]; rfl
  | some c => exact row_at hm hw ht hk
 rw [hrow, rot_map]
 exact ⟨by rw [List.length_map], fun k c hc => by rw [List.getElem?_map, hc]; rfl⟩
theorem lt_heapC {w : World} {b : Nat} {o : Obj} (h : w.heap[b]? = some o) : b < w.heap.size := by
 rcases Nat.lt_or_ge b w.heap.size with h1 | h1
 ·exact h1
 ·rw [Array.getElem?_eq_none h1] at h; cases h
structure US (W0 w : World) (tb : Nat) (hv rv : Value) (K : List ByteArray) (E : List (List ByteArray × Value)) : Prop where
 hd : w.ownsRow W0.heap.size 9 1 hv K.length (K.map Value.string)
 row : w.ownsRow W0.heap.size 22 1 rv E.length (E.map (·.2))
 els : ∀ e ∈ E, w.ownsRow W0.heap.size 9 1 e.2 e.1.length (e.1.map Value.string)
 bx : w.heap[tb]? = some (.cells #[hv, rv] 34 (0, 0))
 bel : Below W0.heap.size W0 w
 lo : W0.heap.size ≤ tb
theorem US.onto {W0 w w' : World} {tb : Nat} {hv rv : Value} {K : List ByteArray} {E : List (List ByteArray × Value)} (h : US W0 w tb hv rv K E) (hb : Below w.heap.size w w') : US W0 w' tb hv rv K E :=
 ⟨ownsRow_below h.hd hb, ownsRow_below h.row hb, fun e he => ownsRow_below (h.els e he) hb, (hb.block _ (lt_heapC h.bx)).trans h.bx, vonto h.bel hb, h.lo⟩
theorem US.cells {W0 w : World} {tb : Nat} {hv rv : Value} {K : List ByteArray} {E : List (List ByteArray × Value)} (h : US W0 w tb hv rv K E) :
  w.cell? ⟨tb, 0, none⟩ = some hv ∧ w.cell? ⟨tb, 1, none⟩ = some rv ∧ w.frozen? ⟨tb, 0, none⟩ = false ∧ w.frozen? ⟨tb, 1, none⟩ = false :=
 ⟨by rw [cell_of_row w tb 0 _ _ _ h.bx]; rfl, by rw [cell_of_row w tb 1 _ _ _ h.bx]; rfl, by simp [World.frozen?, h.bx], by simp [World.frozen?, h.bx]⟩
theorem US.head {W0 w Y : World} {tb : Nat} {hv rv hv' : Value} {K : List ByteArray} (h : US W0 w tb hv rv K []) (c : ByteArray) (h1 : Y.ownsRow W0.heap.size 9 1 hv' (K.length + 1) (K.map Value.string ++ [.string c])) (h2 : w.grownBy Y hv.ownBlock) :
  US W0 (Y.setCell ⟨tb, 0, none⟩ hv') tb hv' rv (K ++ [c]) [] := by
 have b1 : Y.heap[tb]? = some (.cells #[hv, rv] 34 (0, 0)) := (h2.block tb (lt_heapC h.bx) (off_ne (own_off h.hd h.bx (by decide)))).trans h.bx
 have g := set_grownW Y tb 0 hv'
 have r1 := h.row.kept h2 (own_ne h.row h.hd (by decide))
 have hh : hv'.ownBlock = none ∨ hv'.ownBlock ≠ some tb := own_off h1 b1 (by decide)
 refine ⟨by rw [List.length_append, List.map_append]; exact h1.kept g hh, r1.kept g (own_off r1 b1 (by decide)), (fun e he => by cases he), lbox_set b1 0 hv', ?_, h.lo⟩
 exact (h.bel.grown h2 (by have := h.bel.size; omega) (fun q hq => (h.hd.lt q hq).1)).grown g (by have := h.bel.size; have := h2.size; omega) (fun q hq => by injection hq with hq; have := h.lo; omega)
theorem US.more {W0 w Y : World} {tb : Nat} {hv rv rv' : Value} {K : List ByteArray} {E : List (List ByteArray × Value)} (h : US W0 w tb hv rv K E) (R : List ByteArray) (r : Value) (hr : w.ownsRow W0.heap.size 9 1 r R.length (R.map Value.string)) (h1 : Y.ownsRow W0.heap.size 22 1 rv' (E.length + 1) (E.map (·.2) ++ [r])) (h2 : w.grownBy Y rv.ownBlock) :
  US W0 (Y.setCell ⟨tb, 1, none⟩ rv') tb hv rv' K (E ++ [(R, r)]) := by
 have b1 : Y.heap[tb]? = some (.cells #[hv, rv] 34 (0, 0)) := (h2.block tb (lt_heapC h.bx) (off_ne (own_off h.row h.bx (by decide)))).trans h.bx
 have g := set_grownW Y tb 1 rv'
 have d1 := h.hd.kept h2 (own_ne h.hd h.row (by decide))
 have q1 := hr.kept h2 (own_ne hr h.row (by decide))
 refine ⟨d1.kept g (own_off d1 b1 (by decide)), by rw [List.length_append, List.map_append]; exact h1.kept g (own_off h1 b1 (by decide)), fun e he => ?_, lbox_set b1 1 rv', ?_, h.lo⟩
 ·rcases List.mem_append.1 he with he | he
  ·have e1 := (h.els e he).kept h2 (own_ne (h.els e he) h.row (by decide))
   exact e1.kept g (own_off e1 b1 (by decide))
  ·rw [List.mem_singleton.1 he]
   exact q1.kept g (own_off q1 b1 (by decide))
 ·exact (h.bel.grown h2 (by have := h.bel.size; omega) (fun q hq => (h.row.lt q hq).1)).grown g (by have := h.bel.size; have := h2.size; omega) (fun q hq => by injection hq with hq; have := h.lo; omega)
theorem US.inRs {W0 X : World} {tb : Nat} {hv l : Value} {K : List ByteArray} {E : List (List ByteArray × Value)} (h : US W0 X tb hv l K E) (hs : ∀ e ∈ E, ∀ c ∈ e.1, c.size ≤ maxLen) : InRs X (E.map (·.1)) l := by
 have hc := h.row
 rcases hc with ⟨-, ⟨rfl, h0⟩ | ⟨g, cap, cur, rfl, -, -, hn, hcm, -, -⟩⟩
 ·have : E = [] := List.eq_nil_of_length_eq_zero h0
  subst this
  exact inrs_nil _
 ·refine ⟨⟨g, 0, none⟩, ⟨_, _, by rw [List.length_map], by rw [List.length_map]; omega, hcm, fun _ => rfl⟩, fun i K hK => ?_⟩
  rw [List.getElem?_map] at hK
  obtain ⟨e, he, rfl⟩ := Option.map_eq_some_iff.1 hK
  have hi := lt_of_some he
  have hm := List.mem_of_getElem? he
  refine ⟨e.2, ?_, stro_ins (h.els e hm) (hs e hm)⟩
  rw [add_at, h.row.cellAt i (by omega), List.getElem?_map, he]; rfl
theorem Tryz.infoStrC : (Tryz.prog.info? 9).map (fun i => (i.zero, i.size, i.bytes)) = some (some (.string ⟨#[]⟩), 1, 16) := by kernel_rfl
theorem Tryz.infoRowC : (Tryz.prog.info? 22).map (fun i => (i.zero, i.size, i.bytes)) = some (some (.slice none 0 0), 1, 24) := by kernel_rfl
theorem catRC (base : Nat) (X : World) (v : Value) (ys : List Value) (n : Nat) (hown : X.ownsRow base 22 1 v n ys) (nb : Nat) (c : Value) (h1 : c.oneCell' = true) (hc : X.cell? ⟨nb, 0, none⟩ = some c) (hb : base ≤ X.heap.size) (hl : n ≤ 100000) :
  ∃ g cap Y, (Builtin.append_ #[23, 23] 23 #[v, .slice (some ⟨nb, 0, none⟩) 1 1]).run Tryz.prog X = .ok (.slice (some ⟨g, 0, none⟩) (n + 1) cap) Y ∧ Y.ownsRow base 22 1 (.slice (some ⟨g, 0, none⟩) (n + 1) cap) (n + 1) (ys ++ [c]) ∧ X.grownBy Y v.ownBlock := by
 obtain ⟨i1, hi', hz0', hz1', hz2'⟩ := info_parts Tryz.infoRowC
 obtain ⟨g, cp, Y, hr, h2, h3, h4, h5⟩ := run_append_lies (P := Tryz.prog) X 23 23 base 22 i1 (.slice none 0 0) 1 24 Tryz.underlying23 hi' hz0' hz1' hz2' rfl (by decide) v n _ hown ⟨nb, 0, none⟩ 1 1 [c] rfl (fun j u hj => by
  match j, hj with
  | 0, hj => simp at hj; subst hj; simpa [Addr.add] using hc
  | j + 1, hj => simp at hj) (fun u hu => by rw [List.mem_singleton.1 hu]; exact h1) (by decide) (by unfold maxLen; omega) (by omega) hb X.heap.size rfl
 exact ⟨g, cp, Y, hr, h2, h3⟩
theorem flat_is {T : VT} (he : flatE T = 0) : (∀ c ∈ flatH T, c.size ≤ 4096) ∧ (∀ R ∈ flatR T, R.length = (flatH T).length ∧ ∀ c ∈ R, c.size ≤ 4096) ∧ (flatH T).length ≤ 64 ∧ (flatR T).length ≤ 512 := by
 have hl : lomB T = true := by
  cases h : lomB T with
  | true => rfl
  | false => unfold flatE at he; rw [if_pos h] at he; cases he
 have hL : flatL T = false ∧ (flatC T).length ≤ 64 ∧ T.ls.length ≤ 512 := by
  have he := he
  unfold flatE at he
  rw [if_neg (by rw [hl]; decide)] at he
  by_cases h1 : 512 < T.ls.length
  ·rw [if_pos h1] at he; cases he
  rw [if_neg h1] at he
  by_cases h2 : 64 < (flatC T).length
  ·rw [if_pos h2] at he; cases he
  rw [if_neg h2] at he
  cases h3 : flatL T with
  | true => rw [if_pos h3] at he; cases he
  | false => exact ⟨rfl, by omega, by omega⟩
 obtain ⟨hL, hC, hn⟩ := hL
 unfold flatL at hL
 rw [Bool.or_eq_false_iff] at hL
 unfold flatH flatR
 rw [if_pos he, if_pos he]
 refine ⟨fun c hc => ?_, fun R hR' => ⟨?_, fun c hc => ?_⟩, by unfold flatN; rw [List.length_map]; exact hC, by unfold flatW flatX; rw [List.length_map, List.length_map]; exact hn⟩
 ·have := List.any_eq_false.1 hL.1 c hc
  unfold longS at this
  simpa using this
 ·unfold flatW flatX at hR'
  rw [List.map_map] at hR'
  obtain ⟨t, -, rfl⟩ := List.mem_map.1 hR'
  unfold flatN
  rw [List.length_map]
  exact rowM_len _ _
 ·have := List.any_eq_false.1 hL.2 R hR'
  unfold longR at this
  have := List.any_eq_false.1 (by simpa using this) c hc
  unfold longS at this
  simpa using this
theorem flat_may {T : VT} (he : flatE T = 0) : mayB 0 1 T = true := by
 have hl : lomB T = true := by
  cases h : lomB T with
  | true => rfl
  | false => unfold flatE at he; rw [if_pos h] at he; cases he
 exact (lom_parts hl).2.1
theorem unflat_rot {T : VT} (hw : wfT T) (he : flatE T = 0) (hq : ∀ t ∈ T.ls, ∀ z ∈ lfT t [], CelOk z.2) (s : Nat) (kv rv : Value) (X : World) (hK : InS X (rotL (flatH T) s) kv) (hR : InRs X ((flatR T).map fun R => rotL R s) rv) (hg : GlobF X) :
  Calls Tryz.prog 14 #[.agg #[kv, rv]] X fun e w' => ∃ x y, e = .returned (.tuple #[vv T x y, .int .i64 0, .int .i64 ((0 : Nat) : Int), .int .i64 ((0 : Nat) : Int)]) ∧ HV w' T x y ∧ Below X.heap.size X w' := by
 obtain ⟨h1, h2, h3, h4⟩ := flat_is he
 have hl : lomB T = true := by
  cases h : lomB T with
  | true => rfl
  | false => unfold flatE at he; rw [if_pos h] at he; cases he
 have hm1 : ∀ {L : List ByteArray} {c : ByteArray}, c ∈ rotL L s → c ∈ L := fun h => (rot_perm _ s).mem_iff.1 h
 refine unflat_is (up_rot hw he hq s) kv rv X hK hR hg (by rw [rot_len]; omega) (fun c hc => by have := h1 c (hm1 hc); omega) (by rw [List.length_map]; omega) (fun R hR' c hc => ?_) (fun c hc p hp => ?_)
 ·obtain ⟨R0, hR0, rfl⟩ := List.mem_map.1 hR'
  have := (h2 R0 hR0).2 c (hm1 hc); omega
 have hc := hm1 hc
 refine ⟨?_, (prs_small hp (by have := h1 c hc; omega)).2⟩
 unfold flatH flatN at hc
 rw [if_pos he] at hc
 obtain ⟨q, hq', rfl⟩ := List.mem_map.1 hc
 obtain ⟨a, b⟩ := col_name hl hw hq'
 rw [nm_prs a b] at hp
 injection hp with hp
 subst hp
 obtain ⟨-, hm, -⟩ := lom_parts hl
 obtain ⟨e, he', rfl⟩ := (flat_mem hm hw).1 hq'
 obtain ⟨l, hl1, hl2⟩ := List.mem_flatten.1 he'
 obtain ⟨t, ht, rfl⟩ := List.mem_map.1 hl1
 obtain ⟨i, hi⟩ := List.getElem?_of_mem ht
 obtain ⟨r, hr, -, -, h5, -⟩ := lf_good hm hw hi e hl2
 omega
set_option maxRecDepth 100000 in
set_option maxHeartbeats 2000000 in
theorem Tryz.unflatColumns_walk (T : VT) (x y : Value) (o : Int) (ho : (Lit.int .i64 o).wf = true) (w : World) (hg : GlobF w) (hT : HV w T x y) :
  Calls Tryz.prog 6 #[vv T x y, .int .i64 o] w fun e w' => e = .returned (.bool true) ∧ Below w.heap.size w w' := by
 have bo := nwf_bd ho
 have hwf := hv_wfT (szT T) (Nat.le_refl _) hT
 have CA := hid (fun X (hX : Below w.heap.size w X) => awake17 X (hg.on hX))
 have CH := hid (fun X (hX : Below w.heap.size w X) => heavy_any T x y 150 32 X (hT.onto hX) (by omega) (by omega))
 have CF := hid (fun X (hX : Below w.heap.size w X) => flat_tab T x y X (hT.onto hX) (hg.on hX))
 have HT0 := hid hT
 have HGX := hid hg
 obtain ⟨al, bl, f, g, p, q, oL, oM, cL, cM, rfl, rfl, -, -, hL3, hM3, hK, -, hlL, hlM, kL, kK, kM, rL, rM, -, -⟩ := hT.parts
 have hal : Below w.heap.size w (w.alloc (.cells #[.int .i64 T.kd, .int .i64 T.nm, .string T.st, .slice oL T.ls.length cL, .slice oM T.vs.length cM] 29)) := valloc_bel (Below.refl _ _) _
 have hcs : Cs (w.alloc (.cells #[.int .i64 T.kd, .int .i64 T.nm, .string T.st, .slice oL T.ls.length cL, .slice oM T.vs.length cM] 29)) w.heap.size [.int .i64 T.kd, .int .i64 T.nm, .string T.st, .slice oL T.ls.length cL, .slice oM T.vs.length cM] := fun i v h => cells_in rfl rfl (by simpa using h)
 simp only [vv] at CH CF ⊢
 have HWF := hid hwf
 obtain ⟨F0, hF0⟩ : ∃ b, (!fitB T 32 150) = b := ⟨_, rfl⟩
 rw [hF0] at CH
 obtain ⟨KD, hKD⟩ : ∃ k, T.kd = k := ⟨_, rfl⟩
 have HKD := hid hKD
 rw [hKD] at CH CF hal hcs ⊢
 clear hT hg kL kK kM rL rM hK hM3 hL3 hwf hF0 hKD ho
 go_enter Tryz.func6, Tryz.ntmps6
 go_upto_region 1 with fail
 refine cewp_gen ?_
 intro W hW
 rw [← hW] at hal hcs
 have HB0 := hid hal
 clear hW hal
 go_wp2_with fail
 go_at_call 13
 refine (CA.out _ HB0.out).mono ?_
 rintro e w1 ⟨rfl, hb1⟩
 have hcs1 := hcs.onto hb1
 have g0 := hcs1 0 _ rfl
 have g1 := hcs1 1 _ rfl
 have g2 := hcs1 2 _ rfl
 have g3 := hcs1 3 _ rfl
 have g4 := hcs1 4 _ rfl
 have HB1 := hid (vonto HB0.out hb1)
 clear hb1 hcs CA HB0 hcs1
 go_wp2_with fail
 go_at_call 18
 refine (CH.out _ HB1.out).mono ?_
 rintro e w2 ⟨rfl, hb2⟩
 have g0 := keepCell hb2 g0
 have g1 := keepCell hb2 g1
 have g2 := keepCell hb2 g2
 have g3 := keepCell hb2 g3
 have g4 := keepCell hb2 g4
 have HB2 := hid (vonto HB1.out hb2)
 clear hb2 CH HB1
 cases F0 with
 | true =>
  go_wp2_with fail
  go_ret
  exact ⟨rfl, HB2.out⟩
 | false =>
 by_cases ho1 : o < 0
 ·go_wp2_with fail
  go_ret
  exact ⟨rfl, HB2.out⟩
 by_cases ho2 : 100 < o
 ·go_wp2_with fail
  go_ret
  exact ⟨rfl, HB2.out⟩
 obtain ⟨tn, rfl⟩ : ∃ N : Nat, o = (N : Int) := ⟨o.toNat, by omega⟩
 have htn : tn ≤ 100 := by omega
 clear bo
 go_wp2_with fail
 go_at_call 24
 refine (CF.out _ HB2.out).mono ?_
 rintro e w3 ⟨oh, ch, orr, cr, rfl, hh, hr, hb3⟩
 have g0 := keepCell hb3 g0
 have g1 := keepCell hb3 g1
 have g2 := keepCell hb3 g2
 have g3 := keepCell hb3 g3
 have g4 := keepCell hb3 g4
 have HB3 := hid (vonto HB2.out hb3)
 have HH := hid hh
 have HRR := hid hr
 clear hb3 hh hr CF HB2 ho1 ho2
 obtain ⟨E0, hE0⟩ : ∃ e, flatE T = e := ⟨_, rfl⟩
 rw [hE0]
 have HE0 := hid hE0
 clear hE0
 go_upto_region 6 with fail
 refine cewp_gen ?_
 intro W3 hW
 obtain ⟨x0, x1, hbW⟩ := tb2_of hW
 have g0 := keepCell hbW g0
 have g1 := keepCell hbW g1
 have g2 := keepCell hbW g2
 have g3 := keepCell hbW g3
 have g4 := keepCell hbW g4
 have HB4 := hid (vonto HB3.out hbW)
 have HH4 := hid (HH.out.onto hbW)
 have HR4 := hid (HRR.out.onto hbW)
 clear hW hbW HH HRR HB3
 by_cases he0 : E0 = 0
 case neg =>
  have te : (E0 != 0) = true := by simpa using he0
  go_wp2_with fail
  go_ret
  exact ⟨rfl, HB4.out⟩
 have te : (E0 != 0) = false := by simpa using he0
 have HEE := hid (HE0.out.trans he0)
 clear he0
 have HFI := hid (flat_is HEE.out)
 obtain ⟨H, hH⟩ : ∃ H, flatH T = H := ⟨_, rfl⟩
 obtain ⟨RR, hRR⟩ : ∃ RR, flatR T = RR := ⟨_, rfl⟩
 have CU := hid (fun (s : Nat) (kv rv : Value) (X : World) (hK : InS X (rotL (flatH T) s) kv) (hR : InRs X ((flatR T).map fun R => rotL R s) rv) (hg : GlobF X) => unflat_rot HWF.out HEE.out (lists_ok HT0.out (flat_may HEE.out) HWF.out) s kv rv X hK hR hg)
 rw [hH, hRR] at CU HFI
 rw [hH] at HH4 x0
 rw [hRR] at HR4 x1
 obtain ⟨n, hn⟩ : ∃ n, H.length = n := ⟨_, rfl⟩
 obtain ⟨m, hm⟩ : ∃ m, RR.length = m := ⟨_, rfl⟩
 rw [hn] at HH4 x0 HFI
 rw [hm] at HR4 x1 HFI
 have HN := hid hn
 have HM := hid hm
 obtain ⟨-, -, hn64, hm512⟩ := HFI.out
 clear hH hRR hn hm
 go_upto_region 10 with fail
 refine cewp_gen ?_
 intro W4 hW
 have hbW : Below W3.heap.size W3 W4 := by rw [hW]; exact valloc_bel (Below.refl _ _) _
 have HU0 := hid (show US W3 W4 W3.heap.size (.slice none 0 0) (.slice none 0 0) [] [] from ⟨World.ownsRow_nil _ _ _ _, World.ownsRow_nil _ _ _ _, (fun e he => by cases he), by rw [hW]; exact alloc_at _ _, hbW, Nat.le_refl _⟩)
 clear hW hbW
 obtain ⟨i1, hi', hz0', hz1', hz2'⟩ := info_parts Tryz.infoStrC
 go_wp2_with fail
 go_loopw [9] (fun i wr => ∃ (j : Nat) (hv : Value), i = .int .i64 j ∧ j ≤ n ∧ Hid (US W3 wr W3.heap.size hv (.slice none 0 0) ((rotL H (tn % n)).take j) [])) (fun i _ => n - (intOf i).toNat)
 case atStart => exact ⟨0, _, rfl, Nat.zero_le _, HU0⟩
 case round =>
  obtain ⟨j, hv, rfl, hj, HS⟩ := hrel
  have HTL := hid (show ((rotL H (tn % n)).take j).length = j by rw [List.length_take, rot_len, HN.out]; omega)
  obtain ⟨c0, c1, f0, -⟩ := HS.out.cells
  obtain ⟨oh2, ch2, rfl⟩ := own_slice HS.out.hd
  rw [HTL.out] at HS c0
  have y0 := keepCell HS.out.bel x0
  have y1 := keepCell HS.out.bel x1
  by_cases hlt : j < n
  ·obtain ⟨k, hk⟩ : ∃ k, (j + tn) % n = k := ⟨_, rfl⟩
   have hkn : k < n := by rw [← hk]; exact Nat.mod_lt _ (by omega)
   have hmod : ((j : Int) + (tn : Int)).tmod (n : Int) = (k : Int) := by
    rw [← hk, ← Int.natCast_add]; exact (Int.ofNat_tmod _ _).symm
   have hwr : IntKind.i64.wrap ((j : Int) + (tn : Int)) = (j : Int) + (tn : Int) := by rw [IntKind.wrap_i64]; omega
   have hnz : ¬ n = 0 := by omega
   obtain ⟨c, hc⟩ : ∃ c, H[k]? = some c := ⟨_, List.getElem?_eq_getElem (by rw [HN.out]; exact hkn)⟩
   obtain ⟨ad, hsl, hat⟩ := HH4.out
   have hcc := (hat k c hc)
   have hcell := keepCell HS.out.bel hcc.1
   obtain ⟨oq, cq, z3, z1, z2, z4⟩ := hsl
   obtain rfl := z4 (by rw [HN.out]; omega)
   simp only [Value.slice.injEq] at z3
   obtain ⟨rfl, -, rfl⟩ := z3
   have HMR := hid (show (rotL H (tn % n)).take (j + 1) = (rotL H (tn % n)).take j ++ [c] by
    rw [List.take_add_one]
    have := rot_at H tn j (by rw [HN.out]; exact hlt)
    rw [HN.out, hk, hc] at this
    rw [this]; rfl)
   clear z1 z2 z4 hat hc hk y1 c1
   go_wp2_with fail
   refine wp_region_ends2 (S := fun X => X.cell? ⟨W3.heap.size, 0, none⟩ = some (.slice oh2 j ch2) ∧ X.cell? ⟨w3.heap.size, 0, none⟩ = some (.slice (some ad) n ch) ∧ X.cell? (ad.add k) = some (.string c)) (by simp) (by kernel_rfl) (by kernel_rfl) (by kernel_rfl) (by kernel_rfl) (by kernel_rfl) (by kernel_rfl) ?_
   simp only [List.dropLast, List.getLast_cons_cons, List.getLast_singleton, List.length_cons, List.length_nil]
   have hS0 : wr.drew.cell? ⟨W3.heap.size, 0, none⟩ = some (.slice oh2 j ch2) ∧ wr.drew.cell? ⟨w3.heap.size, 0, none⟩ = some (.slice (some ad) n ch) ∧ wr.drew.cell? (ad.add k) = some (.string c) := ⟨c0, y0, hcell⟩
   refine take_h (i := 0) (v := ?_) rfl (by kernel_rfl) (by kernel_rfl) (by kernel_rfl) (fun _ _ _ h => h) (by rfl) ?_ hS0 ?_
   rotate_left
   ·(intro X hX; obtain ⟨y2, y3, y4⟩ := hX; go_simp; try with_reducible rfl)
   try simp only [Act.put, List.setIfInBounds_toArray, List.set_cons_zero, List.set_cons_succ]
   refine take_h (i := 1) (v := ?_) rfl (by kernel_rfl) (by kernel_rfl) (by kernel_rfl) (fun _ _ _ h => h) (by rfl) ?_ hS0 ?_
   rotate_left
   ·(intro X hX; obtain ⟨y2, y3, y4⟩ := hX; go_simp; try with_reducible rfl)
   try simp only [Act.put, List.setIfInBounds_toArray, List.set_cons_zero, List.set_cons_succ]
   refine take_h (i := 2) (v := ?_) rfl (by kernel_rfl) (by kernel_rfl) (by kernel_rfl) (fun _ _ _ h => h) (by rfl) ?_ hS0 ?_
   rotate_left
   ·(intro X hX; obtain ⟨y2, y3, y4⟩ := hX; go_simp; try with_reducible rfl)
   try simp only [Act.put, List.setIfInBounds_toArray, List.set_cons_zero, List.set_cons_succ]
   refine take_h (i := 3) (v := ?_) rfl (by kernel_rfl) (by kernel_rfl) (by kernel_rfl) (fun _ _ _ h => h) (by rfl) ?_ hS0 ?_
   rotate_left
   ·(intro X hX; obtain ⟨y2, y3, y4⟩ := hX; go_simp; try with_reducible rfl)
   try simp only [Act.put, List.setIfInBounds_toArray, List.set_cons_zero, List.set_cons_succ]
   refine take_h (i := 4) (v := ?_) rfl (by kernel_rfl) (by kernel_rfl) (by kernel_rfl) (fun _ _ _ h => h) (by rfl) ?_ hS0 ?_
   rotate_left
   ·(intro X hX; obtain ⟨y2, y3, y4⟩ := hX; go_simp; try with_reducible rfl)
   try simp only [Act.put, List.setIfInBounds_toArray, List.set_cons_zero, List.set_cons_succ]
   refine take_h (i := 5) (v := ?_) rfl (by kernel_rfl) (by kernel_rfl) (by kernel_rfl) (fun _ _ _ h => h) (by rfl) ?_ hS0 ?_
   rotate_left
   ·(intro X hX; obtain ⟨y2, y3, y4⟩ := hX; go_simp; try with_reducible rfl)
   try simp only [Act.put, List.setIfInBounds_toArray, List.set_cons_zero, List.set_cons_succ]
   refine take_h (i := 6) (v := ?_) rfl (by kernel_rfl) (by kernel_rfl) (by kernel_rfl) (fun _ _ _ h => h) (by rfl) ?_ hS0 ?_
   rotate_left
   ·(intro X hX; obtain ⟨y2, y3, y4⟩ := hX; go_simp; try with_reducible rfl)
   try simp only [Act.put, List.setIfInBounds_toArray, List.set_cons_zero, List.set_cons_succ]
   refine take_h (i := 7) (v := ?_) rfl (by kernel_rfl) (by kernel_rfl) (by kernel_rfl) (fun _ _ _ h => h) (by rfl) ?_ hS0 ?_
   rotate_left
   ·(intro X hX; obtain ⟨y2, y3, y4⟩ := hX; go_simp; try with_reducible rfl)
   try simp only [Act.put, List.setIfInBounds_toArray, List.set_cons_zero, List.set_cons_succ]
   refine take_h (i := 8) (v := .int .i64 (k : Int)) rfl (by kernel_rfl) (by kernel_rfl) (by kernel_rfl) (fun _ _ _ h => h) (by rfl) ?_ hS0 ?_
   ·(intro X hX; obtain ⟨y2, y3, y4⟩ := hX; go_simp; first | done | omega | (rw [if_neg (by omega)]; try rw [hwr]; try rw [hmod]))
   try simp only [Act.put, List.setIfInBounds_toArray, List.set_cons_zero, List.set_cons_succ]
   refine take_h (i := 9) (v := ?_) rfl (by kernel_rfl) (by kernel_rfl) (by kernel_rfl) (fun _ _ _ h => h) (by rfl) ?_ hS0 ?_
   rotate_left
   ·(intro X hX; obtain ⟨y2, y3, y4⟩ := hX; go_simp; try with_reducible rfl)
   try simp only [Act.put, List.setIfInBounds_toArray, List.set_cons_zero, List.set_cons_succ]
   refine take_h (i := 10) (v := ?_) rfl (by kernel_rfl) (by kernel_rfl) (by kernel_rfl) (fun _ _ _ h => h) (by rfl) ?_ hS0 ?_
   rotate_left
   ·(intro X hX; obtain ⟨y2, y3, y4⟩ := hX; go_simp; try with_reducible rfl)
   try simp only [Act.put, List.setIfInBounds_toArray, List.set_cons_zero, List.set_cons_succ]
   refine step_h (i := 11) rfl (by kernel_rfl) ?_
   intro KK hKK
   go_simp
   have hbx : Below wr.heap.size wr (wr.drew.alloc (.cells #[.string c] 9)) := vonto (Below.refl wr.heap.size wr).drew (valloc_bel (Below.refl _ _) _)
   refine hKK.out _ _ ⟨keepCell hbx c0, keepCell hbx y0, keepCell hbx hcell⟩ (fun hS2 => ?_)
   clear hKK KK hS0
   try simp only [Act.put, List.setIfInBounds_toArray, List.set_cons_zero, List.set_cons_succ]
   refine step_h (i := 12) rfl (by kernel_rfl) ?_
   intro KK hKK
   have hT2 := HS.out.onto hbx
   refine step_append_lies _ (by rfl) _ _ _ (by rfl) W3.heap.size 9 i1 (.string ⟨#[]⟩) 1 16 Tryz.underlying22 hi' hz0' hz1' hz2' rfl (by decide) _ j _ (by rfl) (HTL.out ▸ hT2.hd) ⟨wr.drew.heap.size, 0, none⟩ 1 1 [.string c] (by rfl) rfl (new_cells wr.drew _ 9) (by intro u hu; rw [List.mem_singleton.1 hu]; rfl) (by decide) (by unfold maxLen; omega) (by omega) hT2.bel.size (wr.drew.heap.size + 1) (by simp) ?_
   intro g9 cap9 w9 hown9 hgr9 hat9 hlt9
   have hd := hT2.head (hv' := .slice (some ⟨g9, 0, none⟩) (j + 1) cap9) c (by rw [HTL.out]; exact hown9) hgr9
   have hk9 : ∀ (a : Addr) (u : Value), W3.cell? a = some u → w9.cell? a = some u := fun a u h => keepCell (HS.out.bel.trans ((hbx.mono HS.out.bel.size).grown hgr9 (by have := hT2.bel.size; omega) (fun q hq => (hT2.hd.lt q hq).1))) h
   have c90 : w9.cell? ⟨W3.heap.size, 0, none⟩ = some (.slice oh2 j ch2) := by
    rw [World.cell?_of_block (hgr9.block _ (lt_heapC hT2.bx) (off_ne (own_off hT2.hd hT2.bx (by decide))))]
    exact hS2.1
   have hf9 : w9.frozen? ⟨W3.heap.size, 0, none⟩ = false := by simp [World.frozen?, (hgr9.block _ (lt_heapC hT2.bx) (off_ne (own_off hT2.hd hT2.bx (by decide)))).trans hT2.bx]
   refine hKK.out _ _ ⟨c90, hk9 _ _ x0, hk9 _ _ hcc.1⟩ (fun hS3 => ?_)
   clear hKK KK hS2 hk9
   try simp only [Act.put, List.setIfInBounds_toArray, List.set_cons_zero, List.set_cons_succ]
   refine take_h (i := 13) (v := ?_) rfl (by kernel_rfl) (by kernel_rfl) (by kernel_rfl) (fun _ _ _ h => h) (by rfl) ?_ hS3 ?_
   rotate_left
   ·(intro X hX; obtain ⟨y2, y3, y4⟩ := hX; go_simp; try with_reducible rfl)
   try simp only [Act.put, List.setIfInBounds_toArray, List.set_cons_zero, List.set_cons_succ]
   refine wpAnyH_done (by kernel_rfl) ?_ _
   change Oper.wp _ _ _ _ _ _
   have HST := hid (show US W3 (w9.setCell ⟨W3.heap.size, 0, none⟩ (.slice (some ⟨g9, 0, none⟩) (j + 1) cap9)) W3.heap.size (.slice (some ⟨g9, 0, none⟩) (j + 1) cap9) (.slice none 0 0) ((rotL H (tn % n)).take (j + 1)) [] from by rw [HMR.out]; exact hd)
   clear hd hgr9 hown9 hT2 hat9 hlt9 hbx HS hS3
   go_simp
   generalize w9.setCell ⟨W3.heap.size, 0, none⟩ (.slice (some ⟨g9, 0, none⟩) (j + 1) cap9) = W9 at *
   clear c90 hf9
   go_wp2_with fail
   go_roundw
   case rel => exact ⟨j + 1, _, val_int (by omega), hlt, HST⟩
   case measure => first | (simp [intOf]; done) | (simp [intOf]; omega)
  ·have hjn : j = n := by omega
   subst hjn
   have HSH := hid (show US W3 wr W3.heap.size (.slice oh2 j ch2) (.slice none 0 0) (rotL H (tn % j)) [] from by
    have h := HS.out
    rwa [List.take_of_length_le (by rw [rot_len, HN.out]; exact Nat.le_refl _)] at h)
   clear c0 c1 f0 HS HTL y0 y1 hlt hj HU0
   go_wp2_with fail
   go_loopw [10, 11, 12] (fun i _ _ wr => ∃ (k : Nat) (rv : Value) (E : List (List ByteArray × Value)), i = .int .i64 k ∧ k ≤ m ∧ Hid (E.length = k) ∧ Hid (US W3 wr W3.heap.size (.slice oh2 j ch2) rv (rotL H (tn % j)) E) ∧ Hid (E.map (·.1) = (RR.take k).map fun R => rotL R (tn % j))) (fun i _ _ _ => m - (intOf i).toNat)
   case atStart => exact ⟨0, _, [], rfl, Nat.zero_le _, hid rfl, HSH, hid (by simp)⟩
   case round =>
    obtain ⟨i, rv, E, rfl, hi, HEL, HS, HEM⟩ := hrel
    have y1 := keepCell HS.out.bel x1
    obtain ⟨orv, crv, rfl⟩ := own_slice HS.out.row
    rw [HEL.out] at HS
    by_cases hlt : i < m
    ·obtain ⟨R, hR⟩ : ∃ R, RR[i]? = some R := ⟨_, List.getElem?_eq_getElem (by rw [HM.out]; exact hlt)⟩
     obtain ⟨arr, hsl, hat⟩ := HR4.out
     obtain ⟨u, hu, hir⟩ := hat i R hR
     obtain ⟨oq, cq, z3, z1, z2, z4⟩ := hsl
     obtain rfl := z4 (by rw [HM.out]; omega)
     simp only [Value.slice.injEq] at z3
     obtain ⟨rfl, -, rfl⟩ := z3
     have HRI := hid (HFI.out.2.1 R (List.mem_of_getElem? hR))
     have hRn : R.length = j := HRI.out.1
     obtain ⟨ad, hsl2, hat2⟩ := hir
     obtain ⟨oq2, cr2, rfl, z5, z6, z7⟩ := hsl2
     rw [hRn] at hu z7
     have HAT := hid hat2
     have HZ7 := hid z7
     have HU := hid hu
     have HRn := hid hRn
     have HRE := hid hR
     clear hat hat2 hR hu z1 z2 z4 z5 z6 z7 hRn
     obtain ⟨W5, rfl⟩ : ∃ X, X = wr := ⟨wr, rfl⟩
     go_wp2_with fail
     go_loopw [11, 12] (fun r k wr => ∃ l : Nat, k = .int .i64 l ∧ l ≤ j ∧ Hid (Below W5.heap.size W5 wr) ∧ Hid (wr.ownsRow W5.heap.size 9 1 r l (((rotL R (tn % j)).take l).map Value.string))) (fun _ k _ => j - (intOf k).toNat)
     case atStart => exact ⟨0, rfl, Nat.zero_le _, hid (Below.refl _ _), hid (World.ownsRow_nil _ _ _ _)⟩
     case round =>
      obtain ⟨l, rfl, hl, HBL, HOR⟩ := hrel
      by_cases hlt2 : l < j
      ·obtain ⟨k, hk⟩ : ∃ k, (l + tn) % j = k := ⟨_, rfl⟩
       have hkn : k < j := by rw [← hk]; exact Nat.mod_lt _ (by omega)
       have hmod : ((l : Int) + (tn : Int)).tmod (j : Int) = (k : Int) := by
        rw [← hk, ← Int.natCast_add]; exact (Int.ofNat_tmod _ _).symm
       have hwr : IntKind.i64.wrap ((l : Int) + (tn : Int)) = (l : Int) + (tn : Int) := by rw [IntKind.wrap_i64]; omega
       have hnz : ¬ j = 0 := by omega
       obtain ⟨c, hc⟩ : ∃ c, R[k]? = some c := ⟨_, List.getElem?_eq_getElem (by rw [HRn.out]; exact hkn)⟩
       obtain rfl := HZ7.out (by omega)
       have vcell := keepCell HS.out.bel (HAT.out k c hc).1
       have vrc := keepCell HS.out.bel HU.out
       have v1 := y1
       have hcell := keepCell HBL.out vcell
       have hrc := keepCell HBL.out vrc
       have y1 := keepCell HBL.out v1
       have HMR := hid (show (rotL R (tn % j)).take (l + 1) = (rotL R (tn % j)).take l ++ [c] by
        rw [List.take_add_one]
        have := rot_at R tn l (by rw [HRn.out]; exact hlt2)
        rw [HRn.out, hk, hc] at this
        rw [this]; rfl)
       obtain ⟨orr2, crr2, rfl⟩ := own_slice HOR.out
       clear hc hk
       go_wp2_with fail
       refine wp_region_ends2 (S := fun X => X.cell? ⟨w3.heap.size, 1, none⟩ = some (.slice (some arr) m cr) ∧ X.cell? (arr.add i) = some (.slice (some ad) j cr2) ∧ X.cell? (ad.add k) = some (.string c)) (by simp) (by kernel_rfl) (by kernel_rfl) (by kernel_rfl) (by kernel_rfl) (by kernel_rfl) (by kernel_rfl) ?_
       simp only [List.dropLast, List.getLast_cons_cons, List.getLast_singleton, List.length_cons, List.length_nil]
       have hS0 : wr.drew.cell? ⟨w3.heap.size, 1, none⟩ = some (.slice (some arr) m cr) ∧ wr.drew.cell? (arr.add i) = some (.slice (some ad) j cr2) ∧ wr.drew.cell? (ad.add k) = some (.string c) := ⟨y1, hrc, hcell⟩
       refine take_h (i := 0) (v := ?_) rfl (by kernel_rfl) (by kernel_rfl) (by kernel_rfl) (fun _ _ _ h => h) (by rfl) ?_ hS0 ?_
       rotate_left
       ·(intro X hX; obtain ⟨y2, y3, y4⟩ := hX; go_simp; try with_reducible rfl)
       try simp only [Act.put, List.setIfInBounds_toArray, List.set_cons_zero, List.set_cons_succ]
       refine take_h (i := 1) (v := ?_) rfl (by kernel_rfl) (by kernel_rfl) (by kernel_rfl) (fun _ _ _ h => h) (by rfl) ?_ hS0 ?_
       rotate_left
       ·(intro X hX; obtain ⟨y2, y3, y4⟩ := hX; go_simp; try with_reducible rfl)
       try simp only [Act.put, List.setIfInBounds_toArray, List.set_cons_zero, List.set_cons_succ]
       refine take_h (i := 2) (v := ?_) rfl (by kernel_rfl) (by kernel_rfl) (by kernel_rfl) (fun _ _ _ h => h) (by rfl) ?_ hS0 ?_
       rotate_left
       ·(intro X hX; obtain ⟨y2, y3, y4⟩ := hX; go_simp; try with_reducible rfl)
       try simp only [Act.put, List.setIfInBounds_toArray, List.set_cons_zero, List.set_cons_succ]
       refine take_h (i := 3) (v := ?_) rfl (by kernel_rfl) (by kernel_rfl) (by kernel_rfl) (fun _ _ _ h => h) (by rfl) ?_ hS0 ?_
       rotate_left
       ·(intro X hX; obtain ⟨y2, y3, y4⟩ := hX; go_simp; try with_reducible rfl)
       try simp only [Act.put, List.setIfInBounds_toArray, List.set_cons_zero, List.set_cons_succ]
       refine take_h (i := 4) (v := ?_) rfl (by kernel_rfl) (by kernel_rfl) (by kernel_rfl) (fun _ _ _ h => h) (by rfl) ?_ hS0 ?_
       rotate_left
       ·(intro X hX; obtain ⟨y2, y3, y4⟩ := hX; go_simp; try with_reducible rfl)
       try simp only [Act.put, List.setIfInBounds_toArray, List.set_cons_zero, List.set_cons_succ]
       refine take_h (i := 5) (v := ?_) rfl (by kernel_rfl) (by kernel_rfl) (by kernel_rfl) (fun _ _ _ h => h) (by rfl) ?_ hS0 ?_
       rotate_left
       ·(intro X hX; obtain ⟨y2, y3, y4⟩ := hX; go_simp; try with_reducible rfl)
       try simp only [Act.put, List.setIfInBounds_toArray, List.set_cons_zero, List.set_cons_succ]
       refine take_h (i := 6) (v := ?_) rfl (by kernel_rfl) (by kernel_rfl) (by kernel_rfl) (fun _ _ _ h => h) (by rfl) ?_ hS0 ?_
       rotate_left
       ·(intro X hX; obtain ⟨y2, y3, y4⟩ := hX; go_simp; try with_reducible rfl)
       try simp only [Act.put, List.setIfInBounds_toArray, List.set_cons_zero, List.set_cons_succ]
       refine take_h (i := 7) (v := ?_) rfl (by kernel_rfl) (by kernel_rfl) (by kernel_rfl) (fun _ _ _ h => h) (by rfl) ?_ hS0 ?_
       rotate_left
       ·(intro X hX; obtain ⟨y2, y3, y4⟩ := hX; go_simp; try with_reducible rfl)
       try simp only [Act.put, List.setIfInBounds_toArray, List.set_cons_zero, List.set_cons_succ]
       refine take_h (i := 8) (v := ?_) rfl (by kernel_rfl) (by kernel_rfl) (by kernel_rfl) (fun _ _ _ h => h) (by rfl) ?_ hS0 ?_
       rotate_left
       ·(intro X hX; obtain ⟨y2, y3, y4⟩ := hX; go_simp; try with_reducible rfl)
       try simp only [Act.put, List.setIfInBounds_toArray, List.set_cons_zero, List.set_cons_succ]
       refine take_h (i := 9) (v := ?_) rfl (by kernel_rfl) (by kernel_rfl) (by kernel_rfl) (fun _ _ _ h => h) (by rfl) ?_ hS0 ?_
       rotate_left
       ·(intro X hX; obtain ⟨y2, y3, y4⟩ := hX; go_simp; try with_reducible rfl)
       try simp only [Act.put, List.setIfInBounds_toArray, List.set_cons_zero, List.set_cons_succ]
       refine take_h (i := 10) (v := .int .i64 (k : Int)) rfl (by kernel_rfl) (by kernel_rfl) (by kernel_rfl) (fun _ _ _ h => h) (by rfl) ?_ hS0 ?_
       ·(intro X hX; obtain ⟨y2, y3, y4⟩ := hX; go_simp; first | done | omega | (rw [if_neg (by omega)]; try rw [hwr]; try rw [hmod]))
       try simp only [Act.put, List.setIfInBounds_toArray, List.set_cons_zero, List.set_cons_succ]
       refine take_h (i := 11) (v := ?_) rfl (by kernel_rfl) (by kernel_rfl) (by kernel_rfl) (fun _ _ _ h => h) (by rfl) ?_ hS0 ?_
       rotate_left
       ·(intro X hX; obtain ⟨y2, y3, y4⟩ := hX; go_simp; try with_reducible rfl)
       try simp only [Act.put, List.setIfInBounds_toArray, List.set_cons_zero, List.set_cons_succ]
       refine take_h (i := 12) (v := ?_) rfl (by kernel_rfl) (by kernel_rfl) (by kernel_rfl) (fun _ _ _ h => h) (by rfl) ?_ hS0 ?_
       rotate_left
       ·(intro X hX; obtain ⟨y2, y3, y4⟩ := hX; go_simp; try with_reducible rfl)
       try simp only [Act.put, List.setIfInBounds_toArray, List.set_cons_zero, List.set_cons_succ]
       refine step_h (i := 13) rfl (by kernel_rfl) ?_
       intro KK hKK
       go_simp
       have hbx : Below wr.heap.size wr (wr.drew.alloc (.cells #[.string c] 9)) := vonto (Below.refl wr.heap.size wr).drew (valloc_bel (Below.refl _ _) _)
       refine hKK.out _ _ ⟨keepCell hbx y1, keepCell hbx hrc, keepCell hbx hcell⟩ (fun hS2 => ?_)
       clear hKK KK hS0
       try simp only [Act.put, List.setIfInBounds_toArray, List.set_cons_zero, List.set_cons_succ]
       refine step_h (i := 14) rfl (by kernel_rfl) ?_
       intro KK hKK
       have hT2 := ownsRow_below HOR.out hbx
       refine step_append_lies _ (by rfl) _ _ _ (by rfl) W5.heap.size 9 i1 (.string ⟨#[]⟩) 1 16 Tryz.underlying22 hi' hz0' hz1' hz2' rfl (by decide) _ l _ (by rfl) hT2 ⟨wr.drew.heap.size, 0, none⟩ 1 1 [.string c] (by rfl) rfl (new_cells wr.drew _ 9) (by intro u hu; rw [List.mem_singleton.1 hu]; rfl) (by decide) (by unfold maxLen; omega) (by omega) (Nat.le_trans HBL.out.size hbx.size) (wr.drew.heap.size + 1) (by simp) ?_
       intro g9 cap9 w9 hown9 hgr9 hat9 hlt9
       have HB9 := hid (show Below W5.heap.size W5 w9 from (vonto HBL.out hbx).grown hgr9 (by have := HBL.out.size; have := hbx.size; omega) (fun q hq => (hT2.lt q hq).1))
       refine hKK.out _ _ ⟨keepCell HB9.out v1, keepCell HB9.out vrc, keepCell HB9.out vcell⟩ (fun hS3 => ?_)
       clear hKK KK hS2
       try simp only [Act.put, List.setIfInBounds_toArray, List.set_cons_zero, List.set_cons_succ]
       refine wpAnyH_done (by kernel_rfl) ?_ _
       change Oper.wp _ _ _ _ _ _
       have HO9 := hid (show w9.ownsRow W5.heap.size 9 1 (.slice (some ⟨g9, 0, none⟩) (l + 1) cap9) (l + 1) (((rotL R (tn % j)).take (l + 1)).map Value.string) from by rw [HMR.out, List.map_append]; exact hown9)
       clear hgr9 hown9 hT2 hat9 hlt9 hbx HOR HBL hS3
       go_simp
       go_wp2_with fail
       go_roundw
       case rel => exact ⟨l + 1, val_int (by omega), hlt2, HB9, HO9⟩
       case measure => first | (simp [intOf]; done) | (simp [intOf]; omega)
      ·have hlj : l = j := by omega
       subst hlj
       obtain ⟨c0, c1, f0, f1⟩ := (HS.out.onto (HBL.out.mono (Nat.le_refl _))).cells
       have HSL := hid (HS.out.onto HBL.out)
       obtain ⟨orr2, crr2, rfl⟩ := own_slice HOR.out
       have HRW := hid (show wr.ownsRow W3.heap.size 9 1 (.slice orr2 l crr2) (rotL R (tn % l)).length ((rotL R (tn % l)).map Value.string) from by
        have h := HOR.out
        rw [List.take_of_length_le (by rw [rot_len, HRn.out]; exact Nat.le_refl _)] at h
        rw [rot_len, HRn.out]
        exact h.mono HS.out.bel.size)
       have hbx : Below wr.heap.size wr (wr.alloc (.cells #[.slice orr2 l crr2] 22)) := valloc_bel (Below.refl _ _) _
       have hT2 := HSL.out.onto hbx
       obtain ⟨g9, cap9, Y, hr9, hown9, hgr9⟩ := catRC W3.heap.size (wr.alloc (.cells #[.slice orr2 l crr2] 22)) (.slice orv i crv) (E.map (·.2)) i (by have h := hT2.row; rwa [HEL.out] at h) wr.heap.size (.slice orr2 l crr2) rfl (by simp) hT2.bel.size (by omega)
       have hd := hT2.more (rv' := .slice (some ⟨g9, 0, none⟩) (i + 1) cap9) (rotL R (tn % l)) (.slice orr2 l crr2) (ownsRow_below HRW.out hbx) (by rw [HEL.out]; exact hown9) hgr9
       have hbx9 := (hgr9.block _ (lt_heapC hT2.bx) (off_ne (own_off hT2.row hT2.bx (by decide)))).trans hT2.bx
       have c9 : Y.cell? ⟨W3.heap.size, 1, none⟩ = some (.slice orv i crv) := by rw [cell_of_row Y W3.heap.size 1 _ _ _ hbx9]; rfl
       have f9 : Y.frozen? ⟨W3.heap.size, 1, none⟩ = false := by simp [World.frozen?, hbx9]
       have HST := hid hd
       have HEN := hid (show (E ++ [(rotL R (tn % l), Value.slice orr2 l crr2)]).map (·.1) = (RR.take (i + 1)).map fun R => rotL R (tn % l) from by
        rw [List.map_append, HEM.out, List.take_add_one, HRE.out, List.map_append]; rfl)
       clear hd hgr9 hown9 hT2 hbx9 hbx HS HBL HOR c0 f0 HRW HSL HEM y1
       go_wp2_with (at_builtin; go_must (refine Lib.wpList_append_run _ rfl _ _ _ _ rfl _ _ rfl rfl _ Y hr9 ?_))
       go_roundw
       case rel => exact ⟨i + 1, _, _, val_int (by omega), hlt, hid (by rw [List.length_append, HEL.out]; rfl), HST, HEN⟩
       case measure => first | (simp [intOf]; done) | (simp [intOf]; omega)
    ·have him : i = m := by omega
     subst him
     obtain ⟨c0, c1, -, -⟩ := HS.out.cells
     have HB6 := hid (vonto HB4.out HS.out.bel)
     have g0 := keepCell HS.out.bel g0
     have g1 := keepCell HS.out.bel g1
     have g2 := keepCell HS.out.bel g2
     have g3 := keepCell HS.out.bel g3
     have g4 := keepCell HS.out.bel g4
     have CU2 := hid (CU.out (tn % j) (.slice oh2 j ch2) (.slice orv i crv) wr (stro_ins (by have h := HS.out.hd; exact h) (fun c hc => by have := HFI.out.1 c ((rot_perm _ _).mem_iff.1 hc); unfold maxLen; omega)) (by
      have h := HS.out.inRs (fun e he c hc => by
       have h1 : e.1 ∈ E.map (·.1) := List.mem_map.2 ⟨e, he, rfl⟩
       rw [HEM.out] at h1
       obtain ⟨R0, hR0, e1⟩ := List.mem_map.1 h1
       rw [← e1] at hc
       have := (HFI.out.2.1 R0 (List.mem_of_mem_take hR0)).2 c ((rot_perm _ _).mem_iff.1 hc)
       unfold maxLen; omega)
      rwa [HEM.out, List.take_of_length_le (by rw [HM.out]; exact Nat.le_refl _)] at h) (HGX.out.on HB6.out))
     clear HS HEM HEL CU
     go_wp2_with fail
     go_at_call 14
     refine CU2.out.mono ?_
     rintro e w12 ⟨x9, y9, rfl, hv9, hb12⟩
     obtain ⟨o5, n5, c5, o6, n6, c6, rfl, rfl⟩ := hv_slices hv9
     have g0 := keepCell hb12 g0
     have g1 := keepCell hb12 g1
     have g2 := keepCell hb12 g2
     have g3 := keepCell hb12 g3
     have g4 := keepCell hb12 g4
     have HB14 := hid (vonto HB6.out hb12)
     have HV9 := hid hv9
     clear hb12 hv9 CU2 x0 x1 HB6 HH4 HR4 c0 c1
     simp only [vv]
     go_upto_region 24 with fail
     refine cewp_gen ?_
     intro W12 hW
     have hbW : Below w12.heap.size w12 W12 := by rw [hW]; exact valloc_bel (Below.refl _ _) _
     have q0 : W12.cell? ⟨w12.heap.size, 0, none⟩ = some (.int .i64 T.kd) := by rw [hW]; simp
     have q1 : W12.cell? ⟨w12.heap.size, 1, none⟩ = some (.int .i64 T.nm) := by rw [hW]; simp
     have q2 : W12.cell? ⟨w12.heap.size, 2, none⟩ = some (.string T.st) := by rw [hW]; simp
     have q3 : W12.cell? ⟨w12.heap.size, 3, none⟩ = some (.slice o5 n5 c5) := by rw [hW]; simp
     have q4 : W12.cell? ⟨w12.heap.size, 4, none⟩ = some (.slice o6 n6 c6) := by rw [hW]; simp
     have g0 := keepCell hbW g0
     have g1 := keepCell hbW g1
     have g2 := keepCell hbW g2
     have g3 := keepCell hbW g3
     have g4 := keepCell hbW g4
     have HB15 := hid (vonto HB14.out hbW)
     have HVC := hid (HV9.out.onto hbW)
     have HVT2 := hid (HT0.out.onto HB15.out)
     clear hW hbW HB14 HV9
     have CS3 := hid (same_any (szT T) T T _ _ _ _ false W12 (Nat.le_refl _) HVC.out HVT2.out)
     rw [eq_same T] at CS3
     simp only [vv] at CS3
     rw [HKD.out] at CS3 q0
     go_wp2_with fail
     go_at_call 16
     refine CS3.out.mono ?_
     rintro e w13 ⟨rfl, hb13⟩
     have HB16 := hid (vonto HB15.out hb13)
     go_wp2_with fail
     go_ret
     exact ⟨rfl, HB16.out⟩
end Go.Proofs.YteimbjamnfkapaaGreatDoor
