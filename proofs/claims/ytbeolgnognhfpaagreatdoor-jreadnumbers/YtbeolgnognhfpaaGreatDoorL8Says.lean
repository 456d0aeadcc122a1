import Derived.Test.YtbeolgnognhfpaaGreatDoorJrThree
import Derived.Test.YtbeolgnognhfpaaGreatDoorJrLaid
import Derived.Test.YtbeolgnognhfpaaGreatDoorRefVal4
/- The statements of layer 8: what the document tells of a few texts. -/
/- The statements of layer 8: what the program reads is what the document reads. -/
namespace Go.Proofs.YtbeolgnognhfpaaGreatDoor
open Go.RowKit

/-- what awake reads first -/
def tA : VT := .mk 6 0 ⟨#[]⟩ [] [⟨#[97]⟩, ⟨#[98]⟩] [.mk 5 0 ⟨#[]⟩ [] [] [], .mk 2 1 ⟨#[]⟩ [] [] []]
set_option maxRecDepth 100000 in
theorem ja1 : jrA (⟨#[123, 34, 98, 34, 58, 49, 44, 34, 97, 34, 58, 91, 93, 125]⟩ : ByteArray).data.toList = .ok tA 3 [⟨0, [], 14⟩] := by kernel_rfl
set_option maxRecDepth 100000 in
theorem ja2 : jrA (⟨#[91, 49, 44, 93]⟩ : ByteArray).data.toList = .bad 4 3 := by kernel_rfl
set_option maxRecDepth 100000 in
theorem ja3 : jrA (⟨#[110, 117, 108, 108]⟩ : ByteArray).data.toList = .ok (leafT 0 0 ⟨#[]⟩) 1 [⟨0, [], 4⟩] := by kernel_rfl
set_option maxRecDepth 100000 in
theorem ja4 : faultV ⟨#[91, 49, 44, 93]⟩ ((3 : Nat) : Int) ((4 : Nat) : Int) = .agg #[.int .i64 4, .int .i64 3, .int .i64 1, .int .i64 4] := by kernel_rfl
theorem tA_cells {w : World} {S : Nat → Prop} {X Y : Value} (h : HS w S tA X Y) : ∃ (o : Option Addr) (n c : Nat) (a : Addr) (cap : Nat), X = .slice o n c ∧ Y = .slice (some a) 2 cap ∧ 2 ≤ cap ∧ cap ≤ maxLen ∧ w.cell? a = some (.string ⟨#[97]⟩) ∧ w.cell? ⟨a.block, a.off + 6 + 1 + 1, none⟩ = some (.int .i64 1) := by
  obtain ⟨o, n, c, o', n', c', rfl, rfl⟩ := hv_slices h.hv
  unfold tA at h
  cases h with
  | mk a b f g p q hk hn hs hL hM hK iL iM cL cK cM rL rM =>
    obtain ⟨o2, cap, e, h1, h2, h3⟩ := hM
    have h4 := h3 (by simp)
    subst h4
    injection e with e1 e2 e3
    subst e1 e2 e3
    have k0 := (cK 0 _ rfl).1
    have k1 := (cM 1 _ rfl).2.1
    refine ⟨o, n, c, b, _, rfl, rfl, h1, h2, ?_, ?_⟩
    · simpa [Addr.add] using k0
    · simpa [Addr.add, nx, VT.nm] using k1
set_option maxRecDepth 100000 in
set_option maxHeartbeats 4000000 in
theorem awake8 (w : World) (hg : Glob w) (hu : GlobU w) :
    Calls Tryz.prog 17 #[] w fun e w' => e = .returned (.bool true) ∧ Below w.heap.size w w' := by
  have C1 := hid (jparse_any ⟨#[123, 34, 98, 34, 58, 49, 44, 34, 97, 34, 58, 91, 93, 125]⟩ w (by decide) hg hu)
  have C2 := hid (fun X (hX : Below w.heap.size w X) => jparse_any ⟨#[91, 49, 44, 93]⟩ X (by decide) (hg.on hX) (hu.on hX))
  have C3 := hid (fun X (hX : Below w.heap.size w X) => jvalid_any ⟨#[110, 117, 108, 108]⟩ X (by decide) (hg.on hX) (hu.on hX))
  rw [ja1] at C1
  rw [ja2] at C2
  rw [ja3] at C3
  clear hg hu
  go_enter Tryz.func17, Tryz.ntmps17
  go_wp2_with fail
  go_at_call 18
  refine C1.out.mono ?_
  rintro e w1 ⟨o, n, c, o', n', c', rfl, hs1, hb1⟩
  obtain ⟨o2, n2, c2, a, cap, e1, e2, hc1, hc2, k0, k1⟩ := tA_cells hs1
  injection e2 with e3 e4 e5
  subst e3 e4 e5
  have HB1 := hid hb1
  unfold maxLen at hc2
  clear hs1 hb1 C1 e1
  unfold vv tA
  simp only [VT.kd, VT.nm, VT.st]
  go_wp2_with fail
  go_at_call 18
  refine (C2.out _ (valloc_bel (valloc_bel HB1.out _) _)).mono ?_
  rintro e w2 ⟨rfl, hb2⟩
  rw [ja4]
  have b0 : ((w1.alloc (.cells #[.int .i64 6, .int .i64 0, .string ⟨#[]⟩, .slice o n c, .slice (some a) 2 c'] 27)).alloc (.cells #[.int .i64 0, .int .i64 0, .int .i64 0, .int .i64 0] 30)).cell? ⟨w1.heap.size, 0, none⟩ = some (.int .i64 6) := by simp
  have b4 : ((w1.alloc (.cells #[.int .i64 6, .int .i64 0, .string ⟨#[]⟩, .slice o n c, .slice (some a) 2 c'] 27)).alloc (.cells #[.int .i64 0, .int .i64 0, .int .i64 0, .int .i64 0] 30)).cell? ⟨w1.heap.size, 4, none⟩ = some (.slice (some a) 2 c') := by simp
  have f0 : ((w1.alloc (.cells #[.int .i64 6, .int .i64 0, .string ⟨#[]⟩, .slice o n c, .slice (some a) 2 c'] 27)).alloc (.cells #[.int .i64 0, .int .i64 0, .int .i64 0, .int .i64 0] 30)).cell? ⟨w1.heap.size + 1, 0, none⟩ = some (.int .i64 0) := by rw [← World.size_alloc w1 (.cells #[.int .i64 6, .int .i64 0, .string ⟨#[]⟩, .slice o n c, .slice (some a) 2 c'] 27)]; simp
  have f1 : ((w1.alloc (.cells #[.int .i64 6, .int .i64 0, .string ⟨#[]⟩, .slice o n c, .slice (some a) 2 c'] 27)).alloc (.cells #[.int .i64 0, .int .i64 0, .int .i64 0, .int .i64 0] 30)).cell? ⟨w1.heap.size + 1, 1, none⟩ = some (.int .i64 0) := by rw [← World.size_alloc w1 (.cells #[.int .i64 6, .int .i64 0, .string ⟨#[]⟩, .slice o n c, .slice (some a) 2 c'] 27)]; simp
  have f2 : ((w1.alloc (.cells #[.int .i64 6, .int .i64 0, .string ⟨#[]⟩, .slice o n c, .slice (some a) 2 c'] 27)).alloc (.cells #[.int .i64 0, .int .i64 0, .int .i64 0, .int .i64 0] 30)).cell? ⟨w1.heap.size + 1, 2, none⟩ = some (.int .i64 0) := by rw [← World.size_alloc w1 (.cells #[.int .i64 6, .int .i64 0, .string ⟨#[]⟩, .slice o n c, .slice (some a) 2 c'] 27)]; simp
  have f3 : ((w1.alloc (.cells #[.int .i64 6, .int .i64 0, .string ⟨#[]⟩, .slice o n c, .slice (some a) 2 c'] 27)).alloc (.cells #[.int .i64 0, .int .i64 0, .int .i64 0, .int .i64 0] 30)).cell? ⟨w1.heap.size + 1, 3, none⟩ = some (.int .i64 0) := by rw [← World.size_alloc w1 (.cells #[.int .i64 6, .int .i64 0, .string ⟨#[]⟩, .slice o n c, .slice (some a) 2 c'] 27)]; simp
  have HB2 := hid (vonto (valloc_bel (valloc_bel HB1.out _) _) hb2)
  have hk1 := valloc_bel (valloc_bel (Below.refl w1.heap.size w1) (.cells #[.int .i64 6, .int .i64 0, .string ⟨#[]⟩, .slice o n c, .slice (some a) 2 c'] 27)) (.cells #[.int .i64 0, .int .i64 0, .int .i64 0, .int .i64 0] 30)
  have hk2 := valloc_bel (valloc_bel (Below.refl w2.heap.size w2) (.cells #[.int .i64 0, .int .i64 0, .string ⟨#[]⟩, .slice none 0 0, .slice none 0 0] 27)) (.cells #[.int .i64 4, .int .i64 3, .int .i64 1, .int .i64 4] 30)
  replace k0 := keepCell hk2 (keepCell hb2 (keepCell hk1 k0))
  replace k1 := keepCell hk2 (keepCell hb2 (keepCell hk1 k1))
  replace b0 := keepCell hk2 (keepCell hb2 b0)
  replace b4 := keepCell hk2 (keepCell hb2 b4)
  replace f0 := keepCell hk2 (keepCell hb2 f0)
  replace f1 := keepCell hk2 (keepCell hb2 f1)
  replace f2 := keepCell hk2 (keepCell hb2 f2)
  replace f3 := keepCell hk2 (keepCell hb2 f3)
  have g0 : ((w2.alloc (.cells #[.int .i64 0, .int .i64 0, .string ⟨#[]⟩, .slice none 0 0, .slice none 0 0] 27)).alloc (.cells #[.int .i64 4, .int .i64 3, .int .i64 1, .int .i64 4] 30)).cell? ⟨w2.heap.size + 1, 0, none⟩ = some (.int .i64 4) := by rw [← World.size_alloc w2 (.cells #[.int .i64 0, .int .i64 0, .string ⟨#[]⟩, .slice none 0 0, .slice none 0 0] 27)]; simp
  have g1 : ((w2.alloc (.cells #[.int .i64 0, .int .i64 0, .string ⟨#[]⟩, .slice none 0 0, .slice none 0 0] 27)).alloc (.cells #[.int .i64 4, .int .i64 3, .int .i64 1, .int .i64 4] 30)).cell? ⟨w2.heap.size + 1, 1, none⟩ = some (.int .i64 3) := by rw [← World.size_alloc w2 (.cells #[.int .i64 0, .int .i64 0, .string ⟨#[]⟩, .slice none 0 0, .slice none 0 0] 27)]; simp
  have g2 : ((w2.alloc (.cells #[.int .i64 0, .int .i64 0, .string ⟨#[]⟩, .slice none 0 0, .slice none 0 0] 27)).alloc (.cells #[.int .i64 4, .int .i64 3, .int .i64 1, .int .i64 4] 30)).cell? ⟨w2.heap.size + 1, 2, none⟩ = some (.int .i64 1) := by rw [← World.size_alloc w2 (.cells #[.int .i64 0, .int .i64 0, .string ⟨#[]⟩, .slice none 0 0, .slice none 0 0] 27)]; simp
  have g3 : ((w2.alloc (.cells #[.int .i64 0, .int .i64 0, .string ⟨#[]⟩, .slice none 0 0, .slice none 0 0] 27)).alloc (.cells #[.int .i64 4, .int .i64 3, .int .i64 1, .int .i64 4] 30)).cell? ⟨w2.heap.size + 1, 3, none⟩ = some (.int .i64 4) := by rw [← World.size_alloc w2 (.cells #[.int .i64 0, .int .i64 0, .string ⟨#[]⟩, .slice none 0 0, .slice none 0 0] 27)]; simp
  have HB3 := hid (vonto HB2.out hk2)
  clear hb2 hk1 hk2 C2
  unfold vv zeroT
  simp only [VT.kd, VT.nm, VT.st]
  go_upto_region 3 with fail
  generalize ((w2.alloc (.cells #[.int .i64 0, .int .i64 0, .string ⟨#[]⟩, .slice none 0 0, .slice none 0 0] 27)).alloc (.cells #[.int .i64 4, .int .i64 3, .int .i64 1, .int .i64 4] 30)) = W3 at k0 k1 b0 b4 f0 f1 f2 f3 g0 g1 g2 g3 HB3 ⊢
  go_wp2_with fail
  go_at_call 27
  refine (C3.out _ HB3.out).mono ?_
  rintro e w4 ⟨rfl, hb4⟩
  rw [show decide (rdErr (Rd.ok (leafT 0 0 ⟨#[]⟩) 1 [⟨0, [], 4⟩]) = 0) = true from rfl]
  have HB4 := hid (vonto HB3.out hb4)
  clear hb4 C3
  go_wp2_with fail
  go_ret
  exact ⟨rfl, HB4.out⟩
end Go.Proofs.YtbeolgnognhfpaaGreatDoor
namespace Go.Proofs.YtbeolgnognhfpaaGreatDoor
open Go.RowKit

mutual
theorem same_me : ∀ T : VT, sameT false T T = true
  | .mk k n s L K V => by
    have h1 := same_meL L
    have h2 := same_meL V
    simp [sameT, strB, VT.kd, VT.nm, VT.st, VT.ls, VT.ks, VT.vs, h1, h2]
theorem same_meL : ∀ L : List VT, sameL false L L = true
  | [] => rfl
  | t :: r => by have h1 := same_me t; have h2 := same_meL r; simp only [sameL, h1, h2, Bool.and_self]
end
set_option maxRecDepth 100000 in
set_option maxHeartbeats 4000000 in
theorem says8_ok (t : ByteArray) (T : VT) (mm : Nat) (q : List Wd) (w : World) (ht : t.size ≤ 1000000) (hg : Glob w) (hu : GlobU w) (hR : jrA t.data.toList = .ok T mm q) :
    Calls Tryz.prog 19 #[.string t] w fun e w' => e = .returned (.bool true) ∧ Below w.heap.size w w' := by
  have C1 := hid (jparse_any t w ht hg hu)
  have C2 := hid (fun X => rparse8 t X ht)
  have C3 := hid (fun X (hX : Below w.heap.size w X) => jvalid_any t X ht (hg.on hX) (hu.on hX))
  rw [hR] at C1 C2 C3
  rw [show decide (rdErr (Rd.ok T mm q) = 0) = true from rfl] at C3
  clear hg hu hR
  go_enter Tryz.func19, Tryz.ntmps19
  go_wp2_with fail
  go_at_call 18
  refine C1.out.mono ?_
  rintro e w1 ⟨o, n, c, o', n', c', rfl, hs1, hb1⟩
  have HB1 := hid hb1
  have HV1 := hid hs1.hv
  clear hs1 hb1 C1
  simp only [vv]
  go_wp2_with fail
  go_at_call 38
  refine (C2.out _).mono ?_
  rintro e w2 ⟨X2, Y2, rfl, hs2, hb2⟩
  obtain ⟨p, m, k, p', m', k', rfl, rfl⟩ := hv_slices hs2.hv

  have a0 : ((w1.alloc (.cells #[.int .i64 T.kd, .int .i64 T.nm, .string T.st, .slice o n c, .slice o' n' c'] 27)).alloc (.cells #[.int .i64 0, .int .i64 0, .int .i64 0, .int .i64 0] 30)).cell? ⟨w1.heap.size, 0, none⟩ = some (.int .i64 T.kd) := by simp
  have a1 : ((w1.alloc (.cells #[.int .i64 T.kd, .int .i64 T.nm, .string T.st, .slice o n c, .slice o' n' c'] 27)).alloc (.cells #[.int .i64 0, .int .i64 0, .int .i64 0, .int .i64 0] 30)).cell? ⟨w1.heap.size, 1, none⟩ = some (.int .i64 T.nm) := by simp
  have a2 : ((w1.alloc (.cells #[.int .i64 T.kd, .int .i64 T.nm, .string T.st, .slice o n c, .slice o' n' c'] 27)).alloc (.cells #[.int .i64 0, .int .i64 0, .int .i64 0, .int .i64 0] 30)).cell? ⟨w1.heap.size, 2, none⟩ = some (.string T.st) := by simp
  have a3 : ((w1.alloc (.cells #[.int .i64 T.kd, .int .i64 T.nm, .string T.st, .slice o n c, .slice o' n' c'] 27)).alloc (.cells #[.int .i64 0, .int .i64 0, .int .i64 0, .int .i64 0] 30)).cell? ⟨w1.heap.size, 3, none⟩ = some (.slice o n c) := by simp
  have a4 : ((w1.alloc (.cells #[.int .i64 T.kd, .int .i64 T.nm, .string T.st, .slice o n c, .slice o' n' c'] 27)).alloc (.cells #[.int .i64 0, .int .i64 0, .int .i64 0, .int .i64 0] 30)).cell? ⟨w1.heap.size, 4, none⟩ = some (.slice o' n' c') := by simp
  have f0 : ((w1.alloc (.cells #[.int .i64 T.kd, .int .i64 T.nm, .string T.st, .slice o n c, .slice o' n' c'] 27)).alloc (.cells #[.int .i64 0, .int .i64 0, .int .i64 0, .int .i64 0] 30)).cell? ⟨w1.heap.size + 1, 0, none⟩ = some (.int .i64 0) := by rw [← World.size_alloc w1 (.cells #[.int .i64 T.kd, .int .i64 T.nm, .string T.st, .slice o n c, .slice o' n' c'] 27)]; simp
  have f1 : ((w1.alloc (.cells #[.int .i64 T.kd, .int .i64 T.nm, .string T.st, .slice o n c, .slice o' n' c'] 27)).alloc (.cells #[.int .i64 0, .int .i64 0, .int .i64 0, .int .i64 0] 30)).cell? ⟨w1.heap.size + 1, 1, none⟩ = some (.int .i64 0) := by rw [← World.size_alloc w1 (.cells #[.int .i64 T.kd, .int .i64 T.nm, .string T.st, .slice o n c, .slice o' n' c'] 27)]; simp
  have f2 : ((w1.alloc (.cells #[.int .i64 T.kd, .int .i64 T.nm, .string T.st, .slice o n c, .slice o' n' c'] 27)).alloc (.cells #[.int .i64 0, .int .i64 0, .int .i64 0, .int .i64 0] 30)).cell? ⟨w1.heap.size + 1, 2, none⟩ = some (.int .i64 0) := by rw [← World.size_alloc w1 (.cells #[.int .i64 T.kd, .int .i64 T.nm, .string T.st, .slice o n c, .slice o' n' c'] 27)]; simp
  have f3 : ((w1.alloc (.cells #[.int .i64 T.kd, .int .i64 T.nm, .string T.st, .slice o n c, .slice o' n' c'] 27)).alloc (.cells #[.int .i64 0, .int .i64 0, .int .i64 0, .int .i64 0] 30)).cell? ⟨w1.heap.size + 1, 3, none⟩ = some (.int .i64 0) := by rw [← World.size_alloc w1 (.cells #[.int .i64 T.kd, .int .i64 T.nm, .string T.st, .slice o n c, .slice o' n' c'] 27)]; simp
  have hk1 := valloc_bel (valloc_bel (Below.refl w1.heap.size w1) (.cells #[.int .i64 T.kd, .int .i64 T.nm, .string T.st, .slice o n c, .slice o' n' c'] 27)) (.cells #[.int .i64 0, .int .i64 0, .int .i64 0, .int .i64 0] 30)
  have hk2 := valloc_bel (valloc_bel (Below.refl w2.heap.size w2) (.cells #[.int .i64 T.kd, .int .i64 T.nm, .string T.st, .slice p m k, .slice p' m' k'] 27)) (.cells #[.int .i64 0, .int .i64 0] 57)
  replace a0 := keepCell hk2 (keepCell hb2 a0)
  replace a1 := keepCell hk2 (keepCell hb2 a1)
  replace a2 := keepCell hk2 (keepCell hb2 a2)
  replace a3 := keepCell hk2 (keepCell hb2 a3)
  replace a4 := keepCell hk2 (keepCell hb2 a4)
  replace f0 := keepCell hk2 (keepCell hb2 f0)
  replace f1 := keepCell hk2 (keepCell hb2 f1)
  replace f2 := keepCell hk2 (keepCell hb2 f2)
  replace f3 := keepCell hk2 (keepCell hb2 f3)
  have b0 : ((w2.alloc (.cells #[.int .i64 T.kd, .int .i64 T.nm, .string T.st, .slice p m k, .slice p' m' k'] 27)).alloc (.cells #[.int .i64 0, .int .i64 0] 57)).cell? ⟨w2.heap.size, 0, none⟩ = some (.int .i64 T.kd) := by simp
  have b1 : ((w2.alloc (.cells #[.int .i64 T.kd, .int .i64 T.nm, .string T.st, .slice p m k, .slice p' m' k'] 27)).alloc (.cells #[.int .i64 0, .int .i64 0] 57)).cell? ⟨w2.heap.size, 1, none⟩ = some (.int .i64 T.nm) := by simp
  have b2 : ((w2.alloc (.cells #[.int .i64 T.kd, .int .i64 T.nm, .string T.st, .slice p m k, .slice p' m' k'] 27)).alloc (.cells #[.int .i64 0, .int .i64 0] 57)).cell? ⟨w2.heap.size, 2, none⟩ = some (.string T.st) := by simp
  have b3 : ((w2.alloc (.cells #[.int .i64 T.kd, .int .i64 T.nm, .string T.st, .slice p m k, .slice p' m' k'] 27)).alloc (.cells #[.int .i64 0, .int .i64 0] 57)).cell? ⟨w2.heap.size, 3, none⟩ = some (.slice p m k) := by simp
  have b4 : ((w2.alloc (.cells #[.int .i64 T.kd, .int .i64 T.nm, .string T.st, .slice p m k, .slice p' m' k'] 27)).alloc (.cells #[.int .i64 0, .int .i64 0] 57)).cell? ⟨w2.heap.size, 4, none⟩ = some (.slice p' m' k') := by simp
  have e0 : ((w2.alloc (.cells #[.int .i64 T.kd, .int .i64 T.nm, .string T.st, .slice p m k, .slice p' m' k'] 27)).alloc (.cells #[.int .i64 0, .int .i64 0] 57)).cell? ⟨w2.heap.size + 1, 0, none⟩ = some (.int .i64 0) := by rw [← World.size_alloc w2 (.cells #[.int .i64 T.kd, .int .i64 T.nm, .string T.st, .slice p m k, .slice p' m' k'] 27)]; simp
  have e1 : ((w2.alloc (.cells #[.int .i64 T.kd, .int .i64 T.nm, .string T.st, .slice p m k, .slice p' m' k'] 27)).alloc (.cells #[.int .i64 0, .int .i64 0] 57)).cell? ⟨w2.heap.size + 1, 1, none⟩ = some (.int .i64 0) := by rw [← World.size_alloc w2 (.cells #[.int .i64 T.kd, .int .i64 T.nm, .string T.st, .slice p m k, .slice p' m' k'] 27)]; simp
  have HV3 := hid (((HV1.out.onto hk1).onto hb2).onto hk2)
  have HV4 := hid (hs2.hv.onto hk2)
  have HB3 := hid (vonto (vonto (vonto HB1.out hk1) hb2) hk2)
  clear hs2 hb2 hk1 hk2 C2 HV1 HB1
  simp only [vv]
  go_upto_region 3 with fail
  generalize ((w2.alloc (.cells #[.int .i64 T.kd, .int .i64 T.nm, .string T.st, .slice p m k, .slice p' m' k'] 27)).alloc (.cells #[.int .i64 0, .int .i64 0] 57)) = W3 at a0 a1 a2 a3 a4 f0 f1 f2 f3 b0 b1 b2 b3 b4 e0 e1 HV3 HV4 HB3 ⊢
  have CS := hid (fun X (hX : Below W3.heap.size W3 X) => same_any (szT T) T T _ _ _ _ false X (Nat.le_refl _) (HV3.out.onto hX) (HV4.out.onto hX))
  rw [same_me] at CS
  simp only [vv] at CS
  go_wp2_with fail
  go_at_call 24
  refine (CS.out _ (Below.refl _ _)).mono ?_
  rintro e w4 ⟨rfl, hb4⟩
  have HB4 := hid (vonto HB3.out hb4)
  clear hb4
  go_wp2_with fail
  go_at_call 27
  refine (C3.out _ HB4.out).mono ?_
  rintro e w5 ⟨rfl, hb5⟩
  have HB5 := hid (vonto HB4.out hb5)
  clear hb5
  go_wp2_with fail
  go_ret
  exact ⟨rfl, HB5.out⟩
set_option maxRecDepth 100000 in
set_option maxHeartbeats 4000000 in
theorem says8_bad (t : ByteArray) (er ea : Nat) (w : World) (ht : t.size ≤ 1000000) (hg : Glob w) (hu : GlobU w) (hR : jrA t.data.toList = .bad er ea) :
    Calls Tryz.prog 19 #[.string t] w fun e w' => e = .returned (.bool true) ∧ Below w.heap.size w w' := by
  have C1 := hid (jparse_any t w ht hg hu)
  have C2 := hid (fun X => rparse8 t X ht)
  have C3 := hid (fun X (hX : Below w.heap.size w X) => jvalid_any t X ht (hg.on hX) (hu.on hX))
  have CG := hid (fun X => rfault_any t (ea : Int) (er : Int) X ht)
  rw [hR] at C1 C2 C3
  unfold Jq at C1
  dsimp only at C1
  have HFV : Hid (faultV t (ea : Int) (er : Int) = .agg #[.int .i64 (er : Int), .int .i64 (clN t.size (ea : Int)), .int .i64 (ofL t (ea : Int)), .int .i64 (ofC t (ea : Int))]) := hid rfl
  generalize faultV t (ea : Int) (er : Int) = fv at C1 CG HFV
  generalize ((clN t.size (ea : Int) : Nat) : Int) = c1 at HFV
  generalize ((ofL t (ea : Int) : Nat) : Int) = c2 at HFV
  generalize ((ofC t (ea : Int) : Nat) : Int) = c3 at HFV
  obtain rfl := HFV.out
  clear hg hu hR HFV
  go_enter Tryz.func19, Tryz.ntmps19
  go_wp2_with fail
  go_at_call 18
  refine C1.out.mono ?_
  rintro e w1 ⟨rfl, hb1⟩
  have HB1 := hid hb1
  clear hb1 C1
  simp only [vv, zeroT, VT.kd, VT.nm, VT.st]
  go_wp2_with fail
  go_at_call 38
  refine (C2.out _).mono ?_
  rintro e w2 ⟨rfl, hne, hb2⟩
  rw [show rdErr (Rd.bad er ea) = er from rfl, decide_eq_false hne] at C3

  have a0 : ((w1.alloc (.cells #[.int .i64 0, .int .i64 0, .string ⟨#[]⟩, .slice none 0 0, .slice none 0 0] 27)).alloc (.cells #[.int .i64 (er : Int), .int .i64 c1, .int .i64 c2, .int .i64 c3] 30)).cell? ⟨w1.heap.size, 0, none⟩ = some (.int .i64 0) := by simp
  have a1 : ((w1.alloc (.cells #[.int .i64 0, .int .i64 0, .string ⟨#[]⟩, .slice none 0 0, .slice none 0 0] 27)).alloc (.cells #[.int .i64 (er : Int), .int .i64 c1, .int .i64 c2, .int .i64 c3] 30)).cell? ⟨w1.heap.size, 1, none⟩ = some (.int .i64 0) := by simp
  have a2 : ((w1.alloc (.cells #[.int .i64 0, .int .i64 0, .string ⟨#[]⟩, .slice none 0 0, .slice none 0 0] 27)).alloc (.cells #[.int .i64 (er : Int), .int .i64 c1, .int .i64 c2, .int .i64 c3] 30)).cell? ⟨w1.heap.size, 2, none⟩ = some (.string ⟨#[]⟩) := by simp
  have a3 : ((w1.alloc (.cells #[.int .i64 0, .int .i64 0, .string ⟨#[]⟩, .slice none 0 0, .slice none 0 0] 27)).alloc (.cells #[.int .i64 (er : Int), .int .i64 c1, .int .i64 c2, .int .i64 c3] 30)).cell? ⟨w1.heap.size, 3, none⟩ = some (.slice none 0 0) := by simp
  have a4 : ((w1.alloc (.cells #[.int .i64 0, .int .i64 0, .string ⟨#[]⟩, .slice none 0 0, .slice none 0 0] 27)).alloc (.cells #[.int .i64 (er : Int), .int .i64 c1, .int .i64 c2, .int .i64 c3] 30)).cell? ⟨w1.heap.size, 4, none⟩ = some (.slice none 0 0) := by simp
  have f0 : ((w1.alloc (.cells #[.int .i64 0, .int .i64 0, .string ⟨#[]⟩, .slice none 0 0, .slice none 0 0] 27)).alloc (.cells #[.int .i64 (er : Int), .int .i64 c1, .int .i64 c2, .int .i64 c3] 30)).cell? ⟨w1.heap.size + 1, 0, none⟩ = some (.int .i64 (er : Int)) := by rw [← World.size_alloc w1 (.cells #[.int .i64 0, .int .i64 0, .string ⟨#[]⟩, .slice none 0 0, .slice none 0 0] 27)]; simp
  have f1 : ((w1.alloc (.cells #[.int .i64 0, .int .i64 0, .string ⟨#[]⟩, .slice none 0 0, .slice none 0 0] 27)).alloc (.cells #[.int .i64 (er : Int), .int .i64 c1, .int .i64 c2, .int .i64 c3] 30)).cell? ⟨w1.heap.size + 1, 1, none⟩ = some (.int .i64 c1) := by rw [← World.size_alloc w1 (.cells #[.int .i64 0, .int .i64 0, .string ⟨#[]⟩, .slice none 0 0, .slice none 0 0] 27)]; simp
  have f2 : ((w1.alloc (.cells #[.int .i64 0, .int .i64 0, .string ⟨#[]⟩, .slice none 0 0, .slice none 0 0] 27)).alloc (.cells #[.int .i64 (er : Int), .int .i64 c1, .int .i64 c2, .int .i64 c3] 30)).cell? ⟨w1.heap.size + 1, 2, none⟩ = some (.int .i64 c2) := by rw [← World.size_alloc w1 (.cells #[.int .i64 0, .int .i64 0, .string ⟨#[]⟩, .slice none 0 0, .slice none 0 0] 27)]; simp
  have f3 : ((w1.alloc (.cells #[.int .i64 0, .int .i64 0, .string ⟨#[]⟩, .slice none 0 0, .slice none 0 0] 27)).alloc (.cells #[.int .i64 (er : Int), .int .i64 c1, .int .i64 c2, .int .i64 c3] 30)).cell? ⟨w1.heap.size + 1, 3, none⟩ = some (.int .i64 c3) := by rw [← World.size_alloc w1 (.cells #[.int .i64 0, .int .i64 0, .string ⟨#[]⟩, .slice none 0 0, .slice none 0 0] 27)]; simp
  have hk1 := valloc_bel (valloc_bel (Below.refl w1.heap.size w1) (.cells #[.int .i64 0, .int .i64 0, .string ⟨#[]⟩, .slice none 0 0, .slice none 0 0] 27)) (.cells #[.int .i64 (er : Int), .int .i64 c1, .int .i64 c2, .int .i64 c3] 30)
  have hk2 := valloc_bel (valloc_bel (Below.refl w2.heap.size w2) (.cells #[.int .i64 0, .int .i64 0, .string ⟨#[]⟩, .slice none 0 0, .slice none 0 0] 27)) (.cells #[.int .i64 (er : Int), .int .i64 (ea : Int)] 57)
  replace a0 := keepCell hk2 (keepCell hb2 a0)
  replace a1 := keepCell hk2 (keepCell hb2 a1)
  replace a2 := keepCell hk2 (keepCell hb2 a2)
  replace a3 := keepCell hk2 (keepCell hb2 a3)
  replace a4 := keepCell hk2 (keepCell hb2 a4)
  replace f0 := keepCell hk2 (keepCell hb2 f0)
  replace f1 := keepCell hk2 (keepCell hb2 f1)
  replace f2 := keepCell hk2 (keepCell hb2 f2)
  replace f3 := keepCell hk2 (keepCell hb2 f3)
  have b0 : ((w2.alloc (.cells #[.int .i64 0, .int .i64 0, .string ⟨#[]⟩, .slice none 0 0, .slice none 0 0] 27)).alloc (.cells #[.int .i64 (er : Int), .int .i64 (ea : Int)] 57)).cell? ⟨w2.heap.size, 0, none⟩ = some (.int .i64 0) := by simp
  have b1 : ((w2.alloc (.cells #[.int .i64 0, .int .i64 0, .string ⟨#[]⟩, .slice none 0 0, .slice none 0 0] 27)).alloc (.cells #[.int .i64 (er : Int), .int .i64 (ea : Int)] 57)).cell? ⟨w2.heap.size, 1, none⟩ = some (.int .i64 0) := by simp
  have b2 : ((w2.alloc (.cells #[.int .i64 0, .int .i64 0, .string ⟨#[]⟩, .slice none 0 0, .slice none 0 0] 27)).alloc (.cells #[.int .i64 (er : Int), .int .i64 (ea : Int)] 57)).cell? ⟨w2.heap.size, 2, none⟩ = some (.string ⟨#[]⟩) := by simp
  have b3 : ((w2.alloc (.cells #[.int .i64 0, .int .i64 0, .string ⟨#[]⟩, .slice none 0 0, .slice none 0 0] 27)).alloc (.cells #[.int .i64 (er : Int), .int .i64 (ea : Int)] 57)).cell? ⟨w2.heap.size, 3, none⟩ = some (.slice none 0 0) := by simp
  have b4 : ((w2.alloc (.cells #[.int .i64 0, .int .i64 0, .string ⟨#[]⟩, .slice none 0 0, .slice none 0 0] 27)).alloc (.cells #[.int .i64 (er : Int), .int .i64 (ea : Int)] 57)).cell? ⟨w2.heap.size, 4, none⟩ = some (.slice none 0 0) := by simp
  have e0 : ((w2.alloc (.cells #[.int .i64 0, .int .i64 0, .string ⟨#[]⟩, .slice none 0 0, .slice none 0 0] 27)).alloc (.cells #[.int .i64 (er : Int), .int .i64 (ea : Int)] 57)).cell? ⟨w2.heap.size + 1, 0, none⟩ = some (.int .i64 (er : Int)) := by rw [← World.size_alloc w2 (.cells #[.int .i64 0, .int .i64 0, .string ⟨#[]⟩, .slice none 0 0, .slice none 0 0] 27)]; simp
  have e1 : ((w2.alloc (.cells #[.int .i64 0, .int .i64 0, .string ⟨#[]⟩, .slice none 0 0, .slice none 0 0] 27)).alloc (.cells #[.int .i64 (er : Int), .int .i64 (ea : Int)] 57)).cell? ⟨w2.heap.size + 1, 1, none⟩ = some (.int .i64 (ea : Int)) := by rw [← World.size_alloc w2 (.cells #[.int .i64 0, .int .i64 0, .string ⟨#[]⟩, .slice none 0 0, .slice none 0 0] 27)]; simp
  have HB3 := hid (vonto (vonto (vonto HB1.out hk1) hb2) hk2)
  have hen : ((er : Int) != 0) = true := by simp; omega
  clear hb2 hk1 hk2 C2 HB1 hne
  simp only [vv, zeroT, VT.kd, VT.nm, VT.st]
  go_upto_region 3 with fail
  generalize ((w2.alloc (.cells #[.int .i64 0, .int .i64 0, .string ⟨#[]⟩, .slice none 0 0, .slice none 0 0] 27)).alloc (.cells #[.int .i64 (er : Int), .int .i64 (ea : Int)] 57)) = V at a0 a1 a2 a3 a4 f0 f1 f2 f3 b0 b1 b2 b3 b4 e0 e1 HB3 ⊢
  have KS := hid (fun X : Abv V => same_any (szT zeroT) zeroT zeroT _ _ _ _ false X.u (Nat.le_refl _) (hv_zero X.u) (hv_zero X.u))
  rw [same_me] at KS
  simp only [vv, zeroT, VT.kd, VT.nm, VT.st] at KS
  have KF := hid (fun X : Abv V => CG.out X.u)
  have KV := hid (fun X : Abv V => C3.out X.u (vonto HB3.out X.h))
  have hinh := abv_some V
  go_wp2_with fail

  have ya0 := above_cell a0
  have ya1 := above_cell a1
  have ya2 := above_cell a2
  have ya3 := above_cell a3
  have ya4 := above_cell a4
  have yf0 := above_cell f0
  have yf1 := above_cell f1
  have yf2 := above_cell f2
  have yf3 := above_cell f3
  have ye0 := above_cell e0
  have ye1 := above_cell e1
  clear a0 a1 a2 a3 a4 f0 f1 f2 f3 b0 b1 b2 b3 b4 e0 e1 CG C3
  refine wp_region_above (by kernel_rfl) (by kernel_rfl) ?_
  repeat (go_big_quiet_step ((first
    | (go_at_call 39; with_reducible exact above_of (KF.out _))
    | (go_at_call 27; with_reducible exact above_of (KV.out _))
    | (go_at_call 24; with_reducible exact above_of (KS.out _)))))
  refine wpQuiet_nil ?_
  intro _ hw'
  obtain ⟨X, hX⟩ := hw'
  subst hX
  go_wp2_with fail
  go_ret
  exact ⟨rfl, vonto HB3.out X.h⟩
theorem says8 (t : ByteArray) (w : World) (ht : t.size ≤ 1000000) (hg : Glob w) (hu : GlobU w) :
    Calls Tryz.prog 19 #[.string t] w fun e w' => e = .returned (.bool true) ∧ Below w.heap.size w w' := by
  cases hR : jrA t.data.toList with
  | ok T m q => exact says8_ok t T m q w ht hg hu hR
  | bad er a => exact says8_bad t er a w ht hg hu hR
set_option maxRecDepth 100000 in
set_option maxHeartbeats 1000000 in
theorem Tryz.jreadSays_walk (t : ByteArray) (_w0 : t.size ≤ maxLen) (w : World) (hgs : Globs w) :
    Calls Tryz.prog 4 #[.string t] w fun e w' => e = .returned (.bool true) ∧ Below w.heap.size w w' := by
  obtain ⟨hg, hu⟩ := hgs
  have CA := hid (awake8 w hg hu)
  by_cases h : t.size ≤ 2000
  · have CS := hid (fun X (hX : Below w.heap.size w X) => says8 t X (by omega) (hg.on hX) (hu.on hX))
    clear hg hu
    go_enter Tryz.func4, Tryz.ntmps4
    go_wp2_with fail
    go_at_call 17
    refine CA.out.mono ?_
    rintro e w1 ⟨rfl, hb1⟩
    go_wp2_with fail
    go_at_call 19
    refine (CS.out _ hb1).mono ?_
    rintro e w2 ⟨rfl, hb2⟩
    go_wp2_with fail
    go_ret
    exact ⟨rfl, vonto hb1 hb2⟩
  · clear hg hu
    go_enter Tryz.func4, Tryz.ntmps4
    go_wp2_with fail
    go_at_call 17
    refine CA.out.mono ?_
    rintro e w1 ⟨rfl, hb1⟩
    go_wp2_with fail
    go_ret
    exact ⟨rfl, hb1⟩
end Go.Proofs.YtbeolgnognhfpaaGreatDoor
