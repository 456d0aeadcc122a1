/- What the laws of JSON's reader share. -/
import Derived.Test.YtkhjahpkbjafaaaGreatDoorPJrThree
import Derived.Test.YtkhjahpkbjafaaaGreatDoorPRefVal4
import Derived.Test.YtkhjahpkbjafaaaGreatDoorPEscTun
/- The statements of layer 8: what the document tells of a few texts. -/
/- The statements of layer 8: what the program reads is what the document reads. -/
namespace Go.Proofs.YtkhjahpkbjafaaaGreatDoor
open Go.RowKit

/-- what awake reads first -/
def tA : VT := .mk 6 0 ⟨#[]⟩ [] [⟨#[97]⟩, ⟨#[98]⟩] [.mk 5 0 ⟨#[]⟩ [] [] [], .mk 2 1 ⟨#[]⟩ [] [] []]
set_option maxRecDepth 100000 in
theorem ja1 : jrA (⟨#[123, 34, 98, 34, 58, 49, 44, 34, 97, 34, 58, 91, 93, 125]⟩ : ByteArray).data.toList = .ok tA 3 [⟨0, [], 14⟩] := by kernel_rfl
set_option maxRecDepth 100000 in
theorem ja2 : jrA (⟨#[91, 49, 44, 93]⟩ : ByteArray).data.toList = .bad 4 3 := by kernel_rfl
set_option maxRecDepth 100000 in
theorem ja3 : jrA (⟨#[110, 117, 108, 108]⟩ : ByteArray).data.toList = .ok (leafT 0 0 ⟨#[]⟩) 1 [⟨0, [], 4⟩] := by kernel_rfl
set_option maxRecDepth 100000 in
theorem ja4 : faultV ⟨#[91, 49, 44, 93]⟩ ((3 : Nat) : Int) ((4 : Nat) : Int) = .agg #[.int .i64 4, .int .i64 3, .int .i64 1, .int .i64 4] := by kernel_rfl
theorem tA_cells {w : World} {S : Nat → Prop} {X Y : Value} (h : HS w S tA X Y) : ∃ (o : Option Addr) (n c : Nat) (a : Addr) (cap : Nat), X = .slice o n c ∧ Y = .slice (some a) 2 cap ∧ 2 ≤ cap ∧ cap ≤ maxLen ∧ w.cell? a = some (.string ⟨#[97]⟩) ∧ w.cell? ⟨a.block, a.off + 6 + 1 + 1, none⟩ = some (.int .i64 1) := by
  obtain ⟨o, n, c, o', n', c', rfl, rfl⟩ := hv_slices h.hv
  unfold tA at h
  cases h with
  | mk a b f g p q hk hn hs hL hM hK iL iM cL cK cM rL rM =>
    obtain ⟨o2, cap, e, h1, h2, h3⟩ := hM
    have h4 := h3 (by simp)
    subst h4
    injection e with e1 e2 e3
    subst e1 e2 e3
    have k0 := (cK 0 _ rfl).1
    have k1 := (cM 1 _ rfl).2.1
    refine ⟨o, n, c, b, _, rfl, rfl, h1, h2, ?_, ?_⟩
    · simpa [Addr.add] using k0
    · simpa [Addr.add, nx, VT.nm] using k1
set_option maxRecDepth 100000 in
set_option maxHeartbeats 4000000 in
theorem awake8 (w : World) (hg : Glob w) (hu : GlobU w) :
    Calls Tryz.prog 14 #[] w fun e w' => e = .returned (.bool true) ∧ Below w.heap.size w w' := by
  have C1 := hid (jparse_any ⟨#[123, 34, 98, 34, 58, 49, 44, 34, 97, 34, 58, 91, 93, 125]⟩ w (by decide) hg hu)
  have C2 := hid (fun X (hX : Below w.heap.size w X) => jparse_any ⟨#[91, 49, 44, 93]⟩ X (by decide) (hg.on hX) (hu.on hX))
  have C3 := hid (fun X (hX : Below w.heap.size w X) => jvalid_any ⟨#[110, 117, 108, 108]⟩ X (by decide) (hg.on hX) (hu.on hX))
  rw [ja1] at C1
  rw [ja2] at C2
  rw [ja3] at C3
  clear hg hu
  go_enter Tryz.func14, Tryz.ntmps14
  go_wp2_with fail
  go_at_call 15
  refine C1.out.mono ?_
  rintro e w1 ⟨o, n, c, o', n', c', rfl, hs1, hb1⟩
  obtain ⟨o2, n2, c2, a, cap, e1, e2, hc1, hc2, k0, k1⟩ := tA_cells hs1
  injection e2 with e3 e4 e5
  subst e3 e4 e5
  have HB1 := hid hb1
  unfold maxLen at hc2
  clear hs1 hb1 C1 e1
  unfold vv tA
  simp only [VT.kd, VT.nm, VT.st]
  go_wp2_with fail
  go_at_call 15
  refine (C2.out _ (valloc_bel (valloc_bel HB1.out _) _)).mono ?_
  rintro e w2 ⟨rfl, hb2⟩
  rw [ja4]
  have b0 : ((w1.alloc (.cells #[.int .i64 6, .int .i64 0, .string ⟨#[]⟩, .slice o n c, .slice (some a) 2 c'] 27)).alloc (.cells #[.int .i64 0, .int .i64 0, .int .i64 0, .int .i64 0] 30)).cell? ⟨w1.heap.size, 0, none⟩ = some (.int .i64 6) := by simp
  have b4 : ((w1.alloc (.cells #[.int .i64 6, .int .i64 0, .string ⟨#[]⟩, .slice o n c, .slice (some a) 2 c'] 27)).alloc (.cells #[.int .i64 0, .int .i64 0, .int .i64 0, .int .i64 0] 30)).cell? ⟨w1.heap.size, 4, none⟩ = some (.slice (some a) 2 c') := by simp
  have f0 : ((w1.alloc (.cells #[.int .i64 6, .int .i64 0, .string ⟨#[]⟩, .slice o n c, .slice (some a) 2 c'] 27)).alloc (.cells #[.int .i64 0, .int .i64 0, .int .i64 0, .int .i64 0] 30)).cell? ⟨w1.heap.size + 1, 0, none⟩ = some (.int .i64 0) := by rw [← World.size_alloc w1 (.cells #[.int .i64 6, .int .i64 0, .string ⟨#[]⟩, .slice o n c, .slice (some a) 2 c'] 27)]; simp
  have f1 : ((w1.alloc (.cells #[.int .i64 6, .int .i64 0, .string ⟨#[]⟩, .slice o n c, .slice (some a) 2 c'] 27)).alloc (.cells #[.int .i64 0, .int .i64 0, .int .i64 0, .int .i64 0] 30)).cell? ⟨w1.heap.size + 1, 1, none⟩ = some (.int .i64 0) := by rw [← World.size_alloc w1 (.cells #[.int .i64 6, .int .i64 0, .string ⟨#[]⟩, .slice o n c, .slice (some a) 2 c'] 27)]; simp
  have f2 : ((w1.alloc (.cells #[.int .i64 6, .int .i64 0, .string ⟨#[]⟩, .slice o n c, .slice (some a) 2 c'] 27)).alloc (.cells #[.int .i64 0, .int .i64 0, .int .i64 0, .int .i64 0] 30)).cell? ⟨w1.heap.size + 1, 2, none⟩ = some (.int .i64 0) := by rw [← World.size_alloc w1 (.cells #[.int .i64 6, .int .i64 0, .string ⟨#[]⟩, .slice o n c, .slice (some a) 2 c'] 27)]; simp
  have f3 : ((w1.alloc (.cells #[.int .i64 6, .int .i64 0, .string ⟨#[]⟩, .slice o n c, .slice (some a) 2 c'] 27)).alloc (.cells #[.int .i64 0, .int .i64 0, .int .i64 0, .int .i64 0] 30)).cell? ⟨w1.heap.size + 1, 3, none⟩ = some (.int .i64 0) := by rw [← World.size_alloc w1 (.cells #[.int .i64 6, .int .i64 0, .string ⟨#[]⟩, .slice o n c, .slice (some a) 2 c'] 27)]; simp
  have HB2 := hid (vonto (valloc_bel (valloc_bel HB1.out _) _) hb2)
  have hk1 := valloc_bel (valloc_bel (Below.refl w1.heap.size w1) (.cells #[.int .i64 6, .int .i64 0, .string ⟨#[]⟩, .slice o n c, .slice (some a) 2 c'] 27)) (.cells #[.int .i64 0, .int .i64 0, .int .i64 0, .int .i64 0] 30)
  have hk2 := valloc_bel (valloc_bel (Below.refl w2.heap.size w2) (.cells #[.int .i64 0, .int .i64 0, .string ⟨#[]⟩, .slice none 0 0, .slice none 0 0] 27)) (.cells #[.int .i64 4, .int .i64 3, .int .i64 1, .int .i64 4] 30)
  replace k0 := keepCell hk2 (keepCell hb2 (keepCell hk1 k0))
  replace k1 := keepCell hk2 (keepCell hb2 (keepCell hk1 k1))
  replace b0 := keepCell hk2 (keepCell hb2 b0)
  replace b4 := keepCell hk2 (keepCell hb2 b4)
  replace f0 := keepCell hk2 (keepCell hb2 f0)
  replace f1 := keepCell hk2 (keepCell hb2 f1)
  replace f2 := keepCell hk2 (keepCell hb2 f2)
  replace f3 := keepCell hk2 (keepCell hb2 f3)
  have g0 : ((w2.alloc (.cells #[.int .i64 0, .int .i64 0, .string ⟨#[]⟩, .slice none 0 0, .slice none 0 0] 27)).alloc (.cells #[.int .i64 4, .int .i64 3, .int .i64 1, .int .i64 4] 30)).cell? ⟨w2.heap.size + 1, 0, none⟩ = some (.int .i64 4) := by rw [← World.size_alloc w2 (.cells #[.int .i64 0, .int .i64 0, .string ⟨#[]⟩, .slice none 0 0, .slice none 0 0] 27)]; simp
  have g1 : ((w2.alloc (.cells #[.int .i64 0, .int .i64 0, .string ⟨#[]⟩, .slice none 0 0, .slice none 0 0] 27)).alloc (.cells #[.int .i64 4, .int .i64 3, .int .i64 1, .int .i64 4] 30)).cell? ⟨w2.heap.size + 1, 1, none⟩ = some (.int .i64 3) := by rw [← World.size_alloc w2 (.cells #[.int .i64 0, .int .i64 0, .string ⟨#[]⟩, .slice none 0 0, .slice none 0 0] 27)]; simp
  have g2 : ((w2.alloc (.cells #[.int .i64 0, .int .i64 0, .string ⟨#[]⟩, .slice none 0 0, .slice none 0 0] 27)).alloc (.cells #[.int .i64 4, .int .i64 3, .int .i64 1, .int .i64 4] 30)).cell? ⟨w2.heap.size + 1, 2, none⟩ = some (.int .i64 1) := by rw [← World.size_alloc w2 (.cells #[.int .i64 0, .int .i64 0, .string ⟨#[]⟩, .slice none 0 0, .slice none 0 0] 27)]; simp
  have g3 : ((w2.alloc (.cells #[.int .i64 0, .int .i64 0, .string ⟨#[]⟩, .slice none 0 0, .slice none 0 0] 27)).alloc (.cells #[.int .i64 4, .int .i64 3, .int .i64 1, .int .i64 4] 30)).cell? ⟨w2.heap.size + 1, 3, none⟩ = some (.int .i64 4) := by rw [← World.size_alloc w2 (.cells #[.int .i64 0, .int .i64 0, .string ⟨#[]⟩, .slice none 0 0, .slice none 0 0] 27)]; simp
  have HB3 := hid (vonto HB2.out hk2)
  clear hb2 hk1 hk2 C2
  unfold vv zeroT
  simp only [VT.kd, VT.nm, VT.st]
  go_upto_region 3 with fail
  generalize ((w2.alloc (.cells #[.int .i64 0, .int .i64 0, .string ⟨#[]⟩, .slice none 0 0, .slice none 0 0] 27)).alloc (.cells #[.int .i64 4, .int .i64 3, .int .i64 1, .int .i64 4] 30)) = W3 at k0 k1 b0 b4 f0 f1 f2 f3 g0 g1 g2 g3 HB3 ⊢
  go_wp2_with fail
  go_at_call 23
  refine (C3.out _ HB3.out).mono ?_
  rintro e w4 ⟨rfl, hb4⟩
  rw [show decide (rdErr (Rd.ok (leafT 0 0 ⟨#[]⟩) 1 [⟨0, [], 4⟩]) = 0) = true from rfl]
  have HB4 := hid (vonto HB3.out hb4)
  clear hb4 C3
  go_wp2_with fail
  go_ret
  exact ⟨rfl, HB4.out⟩
end Go.Proofs.YtkhjahpkbjafaaaGreatDoor
namespace Go.Proofs.YtkhjahpkbjafaaaGreatDoor
open Go.RowKit

mutual
theorem same_me : ∀ T : VT, sameT false T T = true
  | .mk k n s L K V => by
    have h1 := same_meL L
    have h2 := same_meL V
    simp [sameT, strB, VT.kd, VT.nm, VT.st, VT.ls, VT.ks, VT.vs, h1, h2]
theorem same_meL : ∀ L : List VT, sameL false L L = true
  | [] => rfl
  | t :: r => by have h1 := same_me t; have h2 := same_meL r; simp only [sameL, h1, h2, Bool.and_self]
end
end Go.Proofs.YtkhjahpkbjafaaaGreatDoor
namespace Go.Proofs.YtkhjahpkbjafaaaGreatDoor
open Go.RowKit

/-- what Parse ends in: the fault's error alone, and the tree where there is none -/
theorem jq_two {t : ByteArray} {R : Rd} {w w' : World} {e : Ending} (h : Jq t R w e w') : ∃ (T : VT) (o : Option Addr) (n c : Nat) (o' : Option Addr) (n' c' : Nat) (x y z : Int), e = .returned (.tuple #[.agg #[.int .i64 T.kd, .int .i64 T.nm, .string T.st, .slice o n c, .slice o' n' c'], .agg #[.int .i64 (rdErr R : Int), .int .i64 x, .int .i64 y, .int .i64 z]]) ∧ Below w.heap.size w w' ∧ (∀ T2 m q, R = .ok T2 m q → T = T2 ∧ HS w' (fun k => w.heap.size ≤ k ∧ k < w'.heap.size) T2 (.slice o n c) (.slice o' n' c')) := by
  cases R with
  | ok T k q => obtain ⟨o, n, c, o', n', c', rfl, hs, hb⟩ := h; exact ⟨_, _, _, _, _, _, _, _, _, _, rfl, hb, fun T2 m q e => by injection e with e1; subst e1; exact ⟨rfl, hs⟩⟩
  | bad er a => obtain ⟨rfl, hb⟩ := h; exact ⟨_, _, _, _, _, _, _, _, _, _, rfl, hb, fun T2 m q e => by cases e⟩
theorem hs_len {w : World} {S : Nat → Prop} {T : VT} {o o' : Option Addr} {n c n' c' : Nat} (h : HS w S T (.slice o n c) (.slice o' n' c')) : n = T.ls.length ∧ n' = T.vs.length := by
  cases h with
  | mk a b f g p q hk hn hs hL hM hK iL iM cL cK cM rL rM =>
    obtain ⟨oL, capL, e1, -⟩ := hL
    obtain ⟨oM, capM, e2, -⟩ := hM
    injection e1 with _ e3 _
    injection e2 with _ e4 _
    exact ⟨e3, e4⟩
theorem Tryz.madeB (w : World) : (Instr.makeSlice 34 (.int .i64 0) (.int .i64 0)).run Tryz.prog w = .ok (.slice (some ⟨w.heap.size, 0, none⟩) 0 0) (w.alloc (.cells #[] 5)) := by
  obtain ⟨i, hi, hz, hs, hb⟩ := info_parts Tryz.info_b
  have := run_make (P := Tryz.prog) w 34 5 i _ Tryz.underlying34 hi hz .i64 .i64 0 0 (by omega) (Int.le_refl _) (by rw [hb]; omega) (by omega)
  rw [hs, show (0 : Int).toNat * 1 = 0 from rfl, show ∀ z : Array Value, madeCells z 0 = #[] from fun z => by simp [madeCells]] at this
  exact this
theorem Tryz.madeB_own (w : World) (base : Nat) (hb : base ≤ w.heap.size) : (w.alloc (.cells #[] 5)).ownsRow base 5 1 (.slice (some ⟨w.heap.size, 0, none⟩) 0 0) 0 [] := by
  obtain ⟨i, hi, hz, hs, hb'⟩ := info_parts Tryz.info_b
  obtain ⟨w', h1, h2, -⟩ := run_make_own (P := Tryz.prog) w base 34 5 i _ 1 Tryz.underlying34 hi hz hs .i64 .i64 0 (by omega) (Nat.zero_le _) hb
  have h3 := Tryz.madeB w
  have h4 := h1.symm.trans h3
  injection h4 with _ h5
  rw [← h5]; exact h2
theorem own_two {w : World} {base : Nat} {v : Value} {a : List UInt8} {b c : UInt8} (h : w.ownsRow base 5 1 v (a.length + 2) (Lib.strCells (mkS a) ++ [.int .u8 (b.toNat : Int), .int .u8 (c.toNat : Int)])) :
    w.ownsRow base 5 1 v (a ++ [b, c]).length (Lib.strCells (mkS (a ++ [b, c]))) := by
  rw [strCells_app, List.length_append]
  exact h
theorem fault_cells (w : World) (A : Obj) (a b c d : Int) :
    ((w.alloc A).alloc (.cells #[.int .i64 a, .int .i64 b, .int .i64 c, .int .i64 d] 30)).cell? ⟨w.heap.size + 1, 0, none⟩ = some (.int .i64 a) ∧
    ((w.alloc A).alloc (.cells #[.int .i64 a, .int .i64 b, .int .i64 c, .int .i64 d] 30)).cell? ⟨w.heap.size + 1, 1, none⟩ = some (.int .i64 b) ∧
    ((w.alloc A).alloc (.cells #[.int .i64 a, .int .i64 b, .int .i64 c, .int .i64 d] 30)).cell? ⟨w.heap.size + 1, 2, none⟩ = some (.int .i64 c) ∧
    ((w.alloc A).alloc (.cells #[.int .i64 a, .int .i64 b, .int .i64 c, .int .i64 d] 30)).cell? ⟨w.heap.size + 1, 3, none⟩ = some (.int .i64 d) := by
  rw [← World.size_alloc w A]
  refine ⟨?_, ?_, ?_, ?_⟩ <;> simp
theorem value_cells (w : World) (a b : Int) (c : ByteArray) (x y : Value) (B : Obj) :
    ((w.alloc (.cells #[.int .i64 a, .int .i64 b, .string c, x, y] 27)).alloc B).cell? ⟨w.heap.size, 0, none⟩ = some (.int .i64 a) ∧
    ((w.alloc (.cells #[.int .i64 a, .int .i64 b, .string c, x, y] 27)).alloc B).cell? ⟨w.heap.size, 1, none⟩ = some (.int .i64 b) ∧
    ((w.alloc (.cells #[.int .i64 a, .int .i64 b, .string c, x, y] 27)).alloc B).cell? ⟨w.heap.size, 2, none⟩ = some (.string c) ∧
    ((w.alloc (.cells #[.int .i64 a, .int .i64 b, .string c, x, y] 27)).alloc B).cell? ⟨w.heap.size, 3, none⟩ = some x ∧
    ((w.alloc (.cells #[.int .i64 a, .int .i64 b, .string c, x, y] 27)).alloc B).cell? ⟨w.heap.size, 4, none⟩ = some y := by
  refine ⟨?_, ?_, ?_, ?_, ?_⟩ <;> simp
end Go.Proofs.YtkhjahpkbjafaaaGreatDoor
