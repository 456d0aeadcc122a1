/- Plain mathematics: words of JSON are such that a value can be made of them. -/
import Derived.Test.YtkhjahpkbjafaaaGreatDoorUEscRQ2
import Derived.Test.YtkhjahpkbjafaaaGreatDoorUPlaceAll
import Derived.Test.YtkhjahpkbjafaaaGreatDoorURef8All
import Derived.Shelf.SlicesE.Clone
import Derived.Shelf.SlSortCmp.WholeK
import Derived.Shelf.SlSortCmp.NoneTotal
import Derived.Test.YtkhjahpkbjafaaaGreatDoorProg
/- The library's Clone and SortFunc at pairs, laid at this translation. -/
namespace Go.Proofs.YtkhjahpkbjafaaaGreatDoor
open Go.RowKit

theorem vl_one {l : List UInt8} (h : tkN l ≠ 0) : Vl (l.take (tkN l)) := by
  have e : tkN (l.take (tkN l)) = tkN l := tk_local h (by rw [List.take_take]; simp)
  refine .cons _ (by rw [e]; exact h) ?_
  rw [e, List.drop_eq_nil_of_le (List.length_take_le _ _)]
  exact .nil
theorem ltr_vl {r : Int} (h : goodB r = true) : Vl (ltr r) := by
  have hs : (strOfNums (enc r)).data.toList = (encI r).map ub := by rw [← ByteArray.toList_eq]; exact str_enc r h
  have k := (tk_enc r h []).2.1
  rw [List.append_nil] at k
  unfold ltr
  rw [hs]
  have hlen : 0 < (encI r).length := by unfold encI; (repeat' split) <;> simp
  refine .cons _ (by rw [k]; omega) ?_
  rw [k, List.drop_eq_nil_of_le (by simp)]
  exact .nil
theorem nmV_small (toml : Bool) (b : Nat) : nmV toml b < 128 ∨ nmV toml b = 256 := by
  unfold nmV; (repeat' split) <;> simp
theorem escU_vl {l : List UInt8} {n : Nat} : Vl (escU false l n).1 := by
  unfold escU
  split
  · rename_i h; exact ltr_vl h.2
  · rename_i h
    split
    · rename_i h2
      obtain ⟨-, h3, h4, -, -, h5, h6⟩ := h2
      refine ltr_vl ?_
      unfold goodB
      rw [decide_eq_true_eq]
      omega
    · exact .nil
theorem js_vl {l : List UInt8} (hn : 0 < (jsP l).2) : Vl (jsP l).1 := by
  unfold jsP at hn ⊢
  split
  · rename_i h0
    rw [if_pos h0] at hn
    unfold escP at hn ⊢
    split
    · rename_i h1
      refine vl_ascii (fun b hb => ?_)
      rw [List.mem_singleton.1 hb]
      have h2 : nmV false (bt l 1) < 128 := (nmV_small false (bt l 1)).resolve_right (by omega)
      rw [UInt8.toNat_ofNat']
      omega
    · rename_i h1
      rw [if_neg h1] at hn
      split
      · rename_i h2; exact absurd h2.2 (by decide)
      · rename_i h2
        rw [if_neg h2] at hn
        split
        · exact escU_vl
        · exact .nil
  · rename_i h0
    rw [if_neg h0] at hn
    split
    · exact .nil
    · rename_i h1
      rw [if_neg h1] at hn
      exact vl_one (by unfold plP at hn; simp only at hn; omega)
theorem rd_vl {T : List UInt8} : ∀ (f p : Nat) (acc o : List UInt8) (nx : Nat), rd (oE 34) jsP T f p acc = (o, nx, -1) → Vl acc → Vl o
  | 0, p, acc, o, nx, h, _ => by rw [rd] at h; injection h with h1 h2; injection h2 with h2 h3; omega
  | f + 1, p, acc, o, nx, h, ha => by
    rw [rd] at h
    split at h
    · injection h with h1 h2; injection h2 with h2 h3; omega
    · split at h
      · injection h with h1 h2
        rw [← h1]
        have : (oE 34 (T.drop p)).1 = [] := by unfold oE; split <;> rfl
        rw [this, List.append_nil]; exact ha
      · split at h
        · injection h with h1 h2; injection h2 with h2 h3; omega
        · rename_i h3
          exact rd_vl f _ _ o nx h (ha.app (js_vl (by omega)))
/-- a word that a value takes -/
structure Fine (x : Wd) : Prop where
  kd : x.kd ≤ 4
  str : x.kd = 2 → Vl x.tx ∧ x.tx.length ≤ 4096
  num : x.kd = 3 → numB x.tx = true
  lit : x.kd = 4 → litB x.tx = true
theorem lw_fine (T : List UInt8) (i : Nat) (h : (lw T i).er = 0) (h9 : ¬ (lw T i).kd = 9) (a : Nat) : Fine ⟨(lw T i).kd, (lw T i).tx, a⟩ := by
  unfold lw at h h9 ⊢
  cases hb : T[i]? with
  | none => rw [hb] at h; simp at h
  | some c =>
    rw [hb] at h h9
    simp only at h h9 ⊢
    split at h
    · rename_i h1; rw [if_pos h1] at h9; exact absurd rfl h9
    · rename_i h1
      rw [if_neg h1]
      rw [if_neg h1] at h9
      split at h
      · rename_i h2; rw [if_pos h2]; exact ⟨by simp, by simp, by simp, by simp⟩
      · rename_i h2
        rw [if_neg h2]
        rw [if_neg h2] at h9
        split at h
        · rename_i h3
          rw [if_pos h3]
          unfold lwS at h ⊢
          split at h
          · simp at h
          · rename_i h4
            rw [if_neg h4]
            split at h
            · simp at h
            · rename_i h5
              rw [if_neg h5]
              refine ⟨by simp, fun _ => ⟨?_, by simp only; omega⟩, by simp, by simp⟩
              show Vl (unqJ T i).1
              unfold unqJ at h4 ⊢
              split at h4
              · rename_i h6
                rw [if_pos h6]
                unfold rdA at h4 ⊢
                have h7 := (rd_third (E := oE 34) (P := jsP) (T := T) (T.length + 1) ((i : Int).toNat + 1) []).resolve_right h4
                exact rd_vl (T.length + 1) ((i : Int).toNat + 1) [] _ (rd (oE 34) jsP T (T.length + 1) ((i : Int).toNat + 1) []).2.1 (by rw [← h7]) .nil
              · rename_i h6
                rw [if_neg h6]
                exact .nil
        · rename_i h3
          rw [if_neg h3]
          rw [if_neg h3] at h9
          split at h
          · rename_i h4
            rw [if_pos h4]
            unfold lwN at h ⊢
            split at h
            · simp at h
            · rename_i h5
              rw [if_neg h5]
              split at h
              · simp at h
              · rename_i h6
                rw [if_neg h6]
                split at h
                · simp at h
                · rename_i h7
                  rw [if_neg h7]
                  refine ⟨by simp, by simp, fun _ => ?_, by simp⟩
                  show numB ((T.drop i).take (run numC (T.drop i))) = true
                  have g6 : pOk ((T.drop i).take (run numC (T.drop i))) = true := by simpa using h6
                  have g7 : pwOk (pP ((T.drop i).take (run numC (T.drop i)))) = true := by simpa using h7
                  unfold numB
                  rw [g6, g7]
                  have := List.length_take_le (run numC (T.drop i)) (T.drop i)
                  simp only [Bool.true_and, decide_eq_true_eq]
                  omega
          · rename_i h4
            rw [if_neg h4]
            unfold lwL at h ⊢
            split at h
            · rename_i h5
              rw [if_pos h5]
              exact ⟨by simp, by simp, by simp, fun _ => h5⟩
            · simp at h
theorem lx_fine (T : List UInt8) : ∀ (f i : Nat) (acc ws : List Wd) (a : Nat), lx T f i acc = (ws, 0, a) → (∀ x ∈ acc, Fine x) → ∀ x ∈ ws, Fine x
  | 0, i, acc, ws, a, h, _ => by rw [lx] at h; simp at h
  | f + 1, i, acc, ws, a, h, hA => by
    rw [lx] at h
    split at h
    · injection h with h1 h2
      subst h1
      intro x hx
      rcases List.mem_append.1 hx with h | h
      · exact hA x h
      · rw [List.mem_singleton.1 h]; exact ⟨by simp, by simp, by simp, by simp⟩
    · split at h
      · rename_i he
        injection h with h1 h2
        injection h2 with h2 h3
        exact absurd h2 he
      · rename_i he
        split at h
        · exact lx_fine T f _ acc ws a h hA
        · rename_i h9
          exact lx_fine T f _ _ ws a h (fun x hx => by
            rcases List.mem_append.1 hx with h | h
            · exact hA x h
            · rw [List.mem_singleton.1 h]; exact lw_fine T i (Classical.not_not.1 he) h9 i)
theorem cut_fine {T : List UInt8} (h : (cutA T).2.1 = 0) : ∀ x ∈ (cutA T).1, Fine x := by
  unfold cutA at h ⊢
  split at h
  · simp at h
  · rename_i h1
    rw [if_neg h1]
    split at h
    · simp at h
    · rename_i h2
      rw [if_neg h2]
      have hp2 : lx T (T.length + 1) 0 [] = ((lx T (T.length + 1) 0 []).1, 0, (lx T (T.length + 1) 0 []).2.2) := by
        generalize lx T (T.length + 1) 0 [] = p at h ⊢
        obtain ⟨p1, p2, p3⟩ := p
        simp only at h
        rw [h]
      exact lx_fine T _ _ _ _ _ hp2 (fun x hx => by simp at hx)
end Go.Proofs.YtkhjahpkbjafaaaGreatDoor
namespace Go.Proofs
open Go.Shelf
def Tryz.laysClone_ren : Go.Shelf.Ren := ⟨fun | 41 => 116 | n => n, fun | 22 => 25 | 23 => 52 | 4 => 4 | n => n, fun | n => n⟩
theorem Tryz.laysClone : Go.Proofs.SlLaysE0.n41 Tryz.prog Tryz.laysClone_ren := {
  mixed := by kernel_rfl
  f41 := ⟨Tryz.f116.name, by decide, Tryz.func116.trans (congrArg some (by kernel_rfl))⟩
  t4 := Tryz.underlying4
  a4 := Tryz.isAgg4
  z4 := Tryz.sizeOf4
  v4 := Tryz.zeroValue4
  t22 := Tryz.underlying25
  a22 := Tryz.isAgg25
  z22 := Tryz.sizeOf25
  v22 := Tryz.zeroValue25 }
def Tryz.laysSort_ren : Go.Shelf.Ren := ⟨fun | 6 => 117 | 15 => 146 | 14 => 145 | 28 => 184 | 29 => 185 | 20 => 176 | 21 => 177 | 22 => 178 | 23 => 179 | 24 => 180 | 25 => 181 | 26 => 182 | 27 => 183 | 46 => 219 | 47 => 220 | 48 => 221 | 49 => 222 | 50 => 223 | 57 => 246 | n => n, fun | 22 => 25 | 24 => 52 | 25 => 141 | 3 => 3 | 39 => 93 | 0 => 0 | 53 => 171 | 55 => 166 | 4 => 4 | 46 => 185 | 45 => 184 | 50 => 98 | 5 => 5 | 9 => 9 | 66 => 219 | 70 => 223 | 76 => 236 | 77 => 61 | n => n, fun | n => n⟩
theorem Tryz.laysSort : Go.Proofs.SlLaysF0.n6 Tryz.prog Tryz.laysSort_ren := {
  mixed := by kernel_rfl
  f6 := ⟨Tryz.f117.name, by decide, Tryz.func117.trans (congrArg some (by kernel_rfl))⟩
  f14 := ⟨Tryz.f145.name, by decide, Tryz.func145.trans (congrArg some (by kernel_rfl))⟩
  f15 := Tryz.func146.trans (congrArg some (by kernel_rfl))
  f20 := ⟨Tryz.f176.name, by decide, Tryz.func176.trans (congrArg some (by kernel_rfl))⟩
  f21 := ⟨Tryz.f177.name, by decide, Tryz.func177.trans (congrArg some (by kernel_rfl))⟩
  f22 := ⟨Tryz.f178.name, by decide, Tryz.func178.trans (congrArg some (by kernel_rfl))⟩
  f23 := ⟨Tryz.f179.name, by decide, Tryz.func179.trans (congrArg some (by kernel_rfl))⟩
  f24 := ⟨Tryz.f180.name, by decide, Tryz.func180.trans (congrArg some (by kernel_rfl))⟩
  f25 := ⟨Tryz.f181.name, by decide, Tryz.func181.trans (congrArg some (by kernel_rfl))⟩
  f26 := ⟨Tryz.f182.name, by decide, Tryz.func182.trans (congrArg some (by kernel_rfl))⟩
  f27 := ⟨Tryz.f183.name, by decide, Tryz.func183.trans (congrArg some (by kernel_rfl))⟩
  f28 := Tryz.func184.trans (congrArg some (by kernel_rfl))
  f29 := Tryz.func185.trans (congrArg some (by kernel_rfl))
  f46 := ⟨Tryz.f219.name, by decide, Tryz.func219.trans (congrArg some (by kernel_rfl))⟩
  f47 := Tryz.func220.trans (congrArg some (by kernel_rfl))
  f48 := Tryz.func221.trans (congrArg some (by kernel_rfl))
  f49 := ⟨Tryz.f222.name, by decide, Tryz.func222.trans (congrArg some (by kernel_rfl))⟩
  f50 := ⟨Tryz.f223.name, by decide, Tryz.func223.trans (congrArg some (by kernel_rfl))⟩
  f57 := ⟨Tryz.f246.name, by decide, Tryz.func246.trans (congrArg some (by kernel_rfl))⟩
  t0 := Tryz.underlying0
  a0 := Tryz.isAgg0
  z0 := Tryz.sizeOf0
  v0 := Tryz.zeroValue0
  t3 := Tryz.underlying3
  a3 := Tryz.isAgg3
  z3 := Tryz.sizeOf3
  v3 := Tryz.zeroValue3
  t4 := Tryz.underlying4
  a4 := Tryz.isAgg4
  z4 := Tryz.sizeOf4
  v4 := Tryz.zeroValue4
  t5 := Tryz.underlying5
  a5 := Tryz.isAgg5
  z5 := Tryz.sizeOf5
  v5 := Tryz.zeroValue5
  t9 := Tryz.underlying9
  a9 := Tryz.isAgg9
  z9 := Tryz.sizeOf9
  v9 := Tryz.zeroValue9
  t22 := Tryz.underlying25
  a22 := Tryz.isAgg25
  z22 := Tryz.sizeOf25
  v22 := Tryz.zeroValue25
  t25 := Tryz.underlying141
  a25 := Tryz.isAgg141
  z25 := Tryz.sizeOf141
  v25 := Tryz.zeroValue141
  t39 := Tryz.underlying93
  a39 := Tryz.isAgg93
  z39 := Tryz.sizeOf93
  v39 := Tryz.zeroValue93
  t45 := Tryz.underlying184
  a45 := Tryz.isAgg184
  z45 := Tryz.sizeOf184
  v45 := Tryz.zeroValue184
  t46 := Tryz.underlying185
  a46 := Tryz.isAgg185
  z46 := Tryz.sizeOf185
  v46 := Tryz.zeroValue185
  t50 := Tryz.underlying98
  a50 := Tryz.isAgg98
  z50 := Tryz.sizeOf98
  v50 := Tryz.zeroValue98
  t53 := Tryz.underlying171
  a53 := Tryz.isAgg171
  z53 := Tryz.sizeOf171
  v53 := Tryz.zeroValue171
  t55 := Tryz.underlying166
  a55 := Tryz.isAgg166
  z55 := Tryz.sizeOf166
  v55 := Tryz.zeroValue166
  t66 := Tryz.underlying219
  a66 := Tryz.isAgg219
  z66 := Tryz.sizeOf219
  v66 := Tryz.zeroValue219
  t70 := Tryz.underlying223
  a70 := Tryz.isAgg223
  z70 := Tryz.sizeOf223
  v70 := Tryz.zeroValue223
  t76 := Tryz.underlying236
  a76 := Tryz.isAgg236
  z76 := Tryz.sizeOf236
  v76 := Tryz.zeroValue236
  t77 := Tryz.underlying61
  a77 := Tryz.isAgg61
  z77 := Tryz.sizeOf61
  v77 := Tryz.zeroValue61 }
end Go.Proofs
