/- Trees that are alike. -/
import Derived.Test.YtadbeodeiijhdaaGreatDoorFPathOne
import Derived.Test.YtadbeodeiijhdaaGreatDoorFShelf3
import Derived.Shelf.Strconv.ErrVarAll
import Derived.Lib.AtoiAllCases
import Derived.Lib.ItoaLen
import Derived.Lib.AppendIntMem
import Derived.Test.YtadbeodeiijhdaaGreatDoorFVBase
import Derived.Test.YtadbeodeiijhdaaGreatDoorFOrders
/- path.keyText, walked. -/
/- path.parseStep, walked. -/
/- path.Parse, walked. -/
/- path.Text, walked. -/
namespace Go.Proofs.YtadbeodeiijhdaaGreatDoor
open Go.RowKit

/-- what path's calls of the library ask of the package variables -/
structure Glob5 (w : World) : Prop where
  len : ∃ m : Int, w.cell? ⟨0, 0, none⟩ = some (.int .i64 m)
  tab : Lib.TabIs Tryz.prog w "internal/strconv.uint64pow10" .u64 Lib.pow10Tab
  ran : ∃ tp p, w.var? Tryz.prog "strconv.ErrRange" = some #[.iface tp p]
theorem Glob5.on {w w' : World} (h : Glob5 w) (hb : Below w.heap.size w w') : Glob5 w' :=
  ⟨h.len.imp fun _ hm => keepCell hb hm, var_on hb h.tab, h.ran.imp fun _ h1 => h1.imp fun _ h2 => var_on hb h2⟩
/-- a key's text -/
def keyM (k : List UInt8) : Bool := digB k || Lib.hasPrefix k [126, 107]
def keyT (k : List UInt8) : List UInt8 := if keyM k = true then [126, 107] ++ esc k else esc k
theorem repl_any (s old new : ByteArray) (w : World) (hg : Glob5 w) (hs : s.size ≤ 2000000000) (h1 : 1 ≤ old.size) (h2 : new.size ≤ 2) (hne : (old.data.toList == new.data.toList) = false) :
    Calls Tryz.prog 130 #[.string s, .string old, .string new] w fun e w' => e = .returned (.string (mkS (rA old.data.toList new.data.toList s.data.toList))) ∧ Below w.heap.size w w' := by
  obtain ⟨m, hm⟩ := hg.len
  have hc := Lib.countB_le old h1 s.size s (Nat.le_refl _)
  have hb : Lib.countB s old * new.size ≤ 2000000000 * 2 := Nat.mul_le_mul (by omega) h2
  have := Tryz.strings_ReplaceAll s old new m w (by omega) hm h1 (by omega)
  rw [ra_of hne] at this
  exact this
theorem len_esc1 (k : List UInt8) : (rA [126] [126, 48] k).length ≤ 2 * k.length := by
  rw [ra_one]
  induction k with
  | nil => simp
  | cons b l ih =>
    rw [List.flatMap_cons, List.length_append, List.length_cons]
    have : (if b = 126 then [126, 48] else [b] : List UInt8).length ≤ 2 := by split <;> simp
    omega
set_option maxRecDepth 100000 in
set_option maxHeartbeats 1000000 in
theorem ktext_any (s : ByteArray) (w : World) (hg : Glob5 w) (hs : s.size ≤ 1000000000) :
    Calls Tryz.prog 103 #[.string s] w fun e w' => e = .returned (.string (mkS (keyT s.data.toList))) ∧ Below w.heap.size w w' := by
  obtain ⟨s1, h1⟩ : ∃ s1, mkS (rA [126] [126, 48] s.data.toList) = s1 := ⟨_, rfl⟩
  obtain ⟨s2, h2⟩ : ∃ s2, mkS (esc s.data.toList) = s2 := ⟨_, rfl⟩
  have hl1 : s1.size ≤ 2000000000 := by
    have := len_esc1 s.data.toList
    rw [← size_list s1, ← h1, mkS_list]; rw [size_list] at this; omega
  have r1 : ∀ w', Below w.heap.size w w' → Calls Tryz.prog 130 #[.string s, .string ⟨#[126]⟩, .string ⟨#[126, 48]⟩] w' fun e w2 => e = .returned (.string s1) ∧ Below w'.heap.size w' w2 := fun w' hb => by
    have := repl_any s ⟨#[126]⟩ ⟨#[126, 48]⟩ w' (hg.on hb) (by omega) (by decide) (by decide) (by decide)
    rw [show rA (⟨#[126]⟩ : ByteArray).data.toList (⟨#[126, 48]⟩ : ByteArray).data.toList s.data.toList = rA [126] [126, 48] s.data.toList from rfl, h1] at this
    exact this
  have r2 : ∀ w', Below w.heap.size w w' → Calls Tryz.prog 130 #[.string s1, .string ⟨#[47]⟩, .string ⟨#[126, 49]⟩] w' fun e w2 => e = .returned (.string s2) ∧ Below w'.heap.size w' w2 := fun w' hb => by
    have := repl_any s1 ⟨#[47]⟩ ⟨#[126, 49]⟩ w' (hg.on hb) hl1 (by decide) (by decide) (by decide)
    rw [show rA (⟨#[47]⟩ : ByteArray).data.toList (⟨#[126, 49]⟩ : ByteArray).data.toList s1.data.toList = esc s.data.toList by rw [← h1, mkS_list]; exact esc_of _, h2] at this
    exact this
  have rd : ∀ w', Calls Tryz.prog 131 #[.string s] w' fun e w2 => e = .returned (.bool (digB s.data.toList)) ∧ Below w'.heap.size w' w2 := fun w' => pdig_any s w' (by unfold maxLen; omega)
  have rp : ∀ w', Calls Tryz.prog 132 #[.string s, .string ⟨#[126, 107]⟩] w' fun e w2 => e = .returned (.bool (Lib.hasPrefix s.data.toList [126, 107])) ∧ w2 = w' := fun w' => Tryz.strings_HasPrefix s ⟨#[126, 107]⟩ w'
  have HRET := hid (show keyM s.data.toList = true → (⟨#[126, 107]⟩ : ByteArray) ++ s2 = mkS (keyT s.data.toList) by
    intro h; unfold keyT; rw [if_pos h, ← h2]
    apply ByteArray.ext
    apply Array.ext'
    simp [mkS])
  have HRE2 := hid (show keyM s.data.toList = false → s2 = mkS (keyT s.data.toList) by
    intro h; unfold keyT; rw [if_neg (by rw [h]; decide), h2])
  have hs2 : s2.size ≤ 2000000000 := by
    have := esc_len s.data.toList
    rw [← size_list s2, ← h2, mkS_list]; rw [size_list] at this; omega
  unfold keyM at HRET HRE2
  revert rd rp HRET HRE2
  generalize digB s.data.toList = bd
  generalize Lib.hasPrefix s.data.toList [126, 107] = bp
  intro rd rp HRET HRE2
  clear h1 h2
  have hb0 := Below.refl w.heap.size w
  go_enter Tryz.func103, Tryz.ntmps103
  cases bd with
  | true =>
    have HR := hid (HRET.out (by simp))
    clear HRET HRE2
    go_wp2_with (first
      | (go_at_call 130; go_must (first | (refine (r2 _ hb1).mono ?_; rintro e w2 ⟨rfl, hb2⟩) | (refine (r1 _ hb0).mono ?_; rintro e w1 ⟨rfl, hb1⟩)))
      | (go_at_call 131; go_must (refine (rd _).mono ?_; rintro e w3 ⟨rfl, hb3⟩)))
    all_goals go_ret
    all_goals exact ⟨ret_str HR.out, vonto (vonto hb1 hb2) hb3⟩
  | false =>
    cases bp with
    | true =>
      have HR := hid (HRET.out (by simp))
      clear HRET HRE2
      go_wp2_with (first
        | (go_at_call 130; go_must (first | (refine (r2 _ hb1).mono ?_; rintro e w2 ⟨rfl, hb2⟩) | (refine (r1 _ hb0).mono ?_; rintro e w1 ⟨rfl, hb1⟩)))
        | (go_at_call 131; go_must (refine (rd _).mono ?_; rintro e w3 ⟨rfl, hb3⟩))
        | (go_at_call 132; go_must (refine (rp _).mono ?_; rintro e w4 ⟨rfl, rfl⟩)))
      all_goals go_ret
      all_goals exact ⟨ret_str HR.out, vonto (vonto hb1 hb2) hb3⟩
    | false =>
      have HR := hid (HRE2.out (by simp))
      clear HRET HRE2
      go_wp2_with (first
        | (go_at_call 130; go_must (first | (refine (r2 _ hb1).mono ?_; rintro e w2 ⟨rfl, hb2⟩) | (refine (r1 _ hb0).mono ?_; rintro e w1 ⟨rfl, hb1⟩)))
        | (go_at_call 131; go_must (refine (rd _).mono ?_; rintro e w3 ⟨rfl, hb3⟩))
        | (go_at_call 132; go_must (refine (rp _).mono ?_; rintro e w4 ⟨rfl, rfl⟩)))
      all_goals go_ret
      all_goals exact ⟨ret_str HR.out, vonto (vonto hb1 hb2) hb3⟩
end Go.Proofs.YtadbeodeiijhdaaGreatDoor
namespace Go.Proofs.YtadbeodeiijhdaaGreatDoor
open Go.RowKit

/-- what digits say -/
def dvs (a : Nat) (c : UInt8) : Nat := a * 10 + (c.toNat - 48)
def dv (acc : Nat) (l : List UInt8) : Nat := l.foldl dvs acc
/-- a key's text without its marks -/
def unK (l : List UInt8) : List UInt8 := rA [126, 48] [126] (rA [126, 49] [47] (Lib.trimPrefix l [126, 107]))
def psOk (l : List UInt8) : Bool := if digB l = true then decide (dv 0 l ≤ 1000000000) else decide (keyT (unK l) = l)
def psStep (l : List UInt8) : PStep := if digB l = true then ⟨⟨#[]⟩, (if dv 0 l < 9223372036854775808 then dv 0 l else 9223372036854775807 : Nat), true⟩ else ⟨mkS (unK l), 0, false⟩
/-- a fresh step -/
def Z3 (w : World) (b : Nat) : Prop := (w.cell? ⟨b, 0, none⟩ = some (.string ⟨#[]⟩) ∧ w.cell? ⟨b, 1, none⟩ = some (.int .i64 0) ∧ w.cell? ⟨b, 2, none⟩ = some (.bool false)) ∧ ∀ o, w.frozen? ⟨b, o, none⟩ = false
theorem Z3.onto {w w' : World} {b : Nat} (h : Z3 w b) (hb : Below w.heap.size w w') : Z3 w' b :=
  ⟨⟨keepCell hb h.1.1, keepCell hb h.1.2.1, keepCell hb h.1.2.2⟩, fun o => (hb.frozen (p := ⟨b, o, none⟩) (World.block_lt_of_cell? w ⟨b, 0, none⟩ h.1.1)).trans (h.2 o)⟩
end Go.Proofs.YtadbeodeiijhdaaGreatDoor
namespace Go.Proofs.YtadbeodeiijhdaaGreatDoor
open Go.RowKit

def piecesP (l : List UInt8) : List (List UInt8) := Lib.split (l.drop 1) [47]
def parseP (l : List UInt8) : Option (List PStep) :=
  if l = [] then some [] else if ¬ l.getD 0 0 = 47 then none else if (piecesP l).all psOk = true then some ((piecesP l).map psStep) else none
def ParsePost (l : List UInt8) (e : Ending) (w' : World) : Prop :=
  (∃ v p, parseP l = some p ∧ e = .returned (.tuple #[v, .int .i64 0]) ∧ InP w' p v) ∨ (parseP l = none ∧ e = .returned (.tuple #[.slice none 0 0, .int .i64 4]))
def put3 (w : World) (b o : Nat) (v0 v1 v2 : Value) : World := ((w.setCell ⟨b, o, none⟩ v0).setCell ⟨b, o + 1, none⟩ v1).setCell ⟨b, o + 2, none⟩ v2
/-- what the loop has read -/
def PPart (w : World) (b : Nat) (P : List ByteArray) (j : Nat) : Prop := ∀ k s, k < j → P[k]? = some s → psOk s.data.toList = true ∧
  w.cell? ⟨b, k * 3, none⟩ = some (.string (psStep s.data.toList).key) ∧ w.cell? ⟨b, k * 3 + 1, none⟩ = some (.int .i64 (psStep s.data.toList).at_) ∧ w.cell? ⟨b, k * 3 + 2, none⟩ = some (.bool (psStep s.data.toList).place)
end Go.Proofs.YtadbeodeiijhdaaGreatDoor
namespace Go.Proofs.YtadbeodeiijhdaaGreatDoor
open Go.RowKit

/-- where the library's builder stands in this translation -/
def renB : Go.Shelf.Ren := ⟨fun | 166 => 101 | 167 => 100 | 240 => 128 | 276 => 165 | n => n, fun | 0 => 0 | 3 => 3 | 4 => 4 | 5 => 5 | 9 => 9 | 20 => 20 | 37 => 114 | 70 => 164 | 72 => 166 | 75 => 168 | 80 => 173 | 164 => 217 | n => n, fun | n => n⟩
theorem lays167 : Go.Proofs.Lays.n167 Tryz.prog renB := {
  mixed := by kernel_rfl
  f167 := Tryz.func100.trans (congrArg some (by kernel_rfl))
  f240 := Tryz.func128.trans (congrArg some (by kernel_rfl))
  f276 := Tryz.func165.trans (congrArg some (by kernel_rfl))
  t0 := Tryz.underlying0
  a0 := Tryz.isAgg0
  z0 := Tryz.sizeOf0
  v0 := Tryz.zeroValue0
  t4 := Tryz.underlying4
  a4 := Tryz.isAgg4
  z4 := Tryz.sizeOf4
  v4 := Tryz.zeroValue4
  t5 := Tryz.underlying5
  a5 := Tryz.isAgg5
  z5 := Tryz.sizeOf5
  v5 := Tryz.zeroValue5
  t9 := Tryz.underlying9
  a9 := Tryz.isAgg9
  z9 := Tryz.sizeOf9
  v9 := Tryz.zeroValue9
  t20 := Tryz.underlying20
  a20 := Tryz.isAgg20
  z20 := Tryz.sizeOf20
  v20 := Tryz.zeroValue20
  t37 := Tryz.underlying114
  a37 := Tryz.isAgg114
  z37 := Tryz.sizeOf114
  v37 := Tryz.zeroValue114
  t70 := Tryz.underlying164
  a70 := Tryz.isAgg164
  z70 := Tryz.sizeOf164
  v70 := Tryz.zeroValue164
  t72 := Tryz.underlying166
  a72 := Tryz.isAgg166
  z72 := Tryz.sizeOf166
  v72 := Tryz.zeroValue166
  t75 := Tryz.underlying168
  a75 := Tryz.isAgg168
  z75 := Tryz.sizeOf168
  v75 := Tryz.zeroValue168
  t164 := Tryz.underlying217
  a164 := Tryz.isAgg217
  z164 := Tryz.sizeOf217
  v164 := Tryz.zeroValue217 }
theorem lays166 : Go.Proofs.Lays.n166 Tryz.prog renB := {
  mixed := by kernel_rfl
  f166 := Tryz.func101.trans (congrArg some (by kernel_rfl))
  f240 := lays167.f240
  f276 := lays167.f276
  t0 := lays167.t0
  a0 := lays167.a0
  z0 := lays167.z0
  v0 := lays167.v0
  t3 := Tryz.underlying3
  a3 := Tryz.isAgg3
  z3 := Tryz.sizeOf3
  v3 := Tryz.zeroValue3
  t4 := lays167.t4
  a4 := lays167.a4
  z4 := lays167.z4
  v4 := lays167.v4
  t9 := lays167.t9
  a9 := lays167.a9
  z9 := lays167.z9
  v9 := lays167.v9
  t20 := lays167.t20
  a20 := lays167.a20
  z20 := lays167.z20
  v20 := lays167.v20
  t37 := lays167.t37
  a37 := lays167.a37
  z37 := lays167.z37
  v37 := lays167.v37
  t70 := lays167.t70
  a70 := lays167.a70
  z70 := lays167.z70
  v70 := lays167.v70
  t72 := lays167.t72
  a72 := lays167.a72
  z72 := lays167.z72
  v72 := lays167.v72
  t75 := lays167.t75
  a75 := lays167.a75
  z75 := lays167.z75
  v75 := lays167.v75
  t164 := lays167.t164
  a164 := lays167.a164
  z164 := lays167.z164
  v164 := lays167.v164 }
theorem extraB : Builder.Extra Tryz.prog renB := {
  sizeBuilder := by kernel_rfl
  liesBuilder := by kernel_rfl
  t5 := lays167.t5
  a5 := lays167.a5
  z5 := lays167.z5
  v5 := lays167.v5
  infoByte := by kernel_rfl
  cellsByte := by kernel_rfl
  sizeByte := by kernel_rfl
  neB5 := by decide }
/-- a builder that holds these bytes -/
def Bld (B b : Nat) (l : List UInt8) (w : World) : Prop := Lib.IsBuilderF 166 5 B b (Lib.byteCells l) w
theorem Bld.onto {B b : Nat} {l : List UInt8} {w w' : World} (h : Bld B b l w) (hb : Below w.heap.size w w') : Bld B b l w' := by
  have one : ∀ p, Lib.BuilderAtF 166 5 B b p (Lib.byteCells l) w → Lib.BuilderAtF 166 5 B b p (Lib.byteCells l) w' := by
    rintro p ⟨hB, v, h1, h2, h3⟩
    refine ⟨hB, v, ?_, ⟨h2.1, ?_⟩, h3⟩
    · rw [hb.block b (Array.getElem?_eq_some_iff.1 h1).1]; exact h1
    · rcases h2.2 with hn | ⟨g, cap, cur, fz, rfl, hb2, hgg, rest⟩
      · exact .inl hn
      · exact .inr ⟨g, cap, cur, fz, rfl, hb2, by rw [hb.block g (Array.getElem?_eq_some_iff.1 hgg).1]; exact hgg, rest⟩
  exact h.elim (fun x => .inl (one _ x)) (fun x => .inr (one _ x))
theorem wbyte_any (B b : Nat) (l : List UInt8) (c : UInt8) (w : World) (h : Bld B b l w) (hlen : l.length + 1 ≤ 140737488355328) (hB : B ≤ w.heap.size) :
    Calls Tryz.prog 100 #[.pointer (some ⟨b, 0, none⟩), .int .u8 c.toNat] w fun e w' => e = .returned .nilIface ∧ Bld B b (l ++ [c]) w' ∧ Below B w w' ∧ Lib.OthersKept 5 (some b) w w' := by
  have := Any.Builder_WriteByte_k lays167 extraB B b (Lib.byteCells l) c.toNat w h (by rw [Lib.byteCells_length]; exact hlen) hB
  refine Calls.mono this ?_
  rintro e w' ⟨rfl, h1, h2, h3⟩
  refine ⟨rfl, .inr ?_, h2, h3⟩
  rw [show Lib.byteCells (l ++ [c]) = Lib.byteCells l ++ [.int .u8 c.toNat] by simp [Lib.byteCells]]
  exact h1
theorem wstr_any (B b : Nat) (l : List UInt8) (s : ByteArray) (w : World) (h : Bld B b l w) (hlen : l.length + s.size ≤ 140737488355328) (hB : B ≤ w.heap.size) :
    Calls Tryz.prog 101 #[.pointer (some ⟨b, 0, none⟩), .string s] w fun e w' => e = .returned (.tuple #[.int .i64 s.size, .nilIface]) ∧ Bld B b (l ++ s.data.toList) w' ∧ Below B w w' ∧ Lib.OthersKept 5 (some b) w w' := by
  have := Any.Builder_WriteString_k lays166 extraB B b (Lib.byteCells l) s w h (by rw [Lib.byteCells_length]; exact hlen) hB
  refine Calls.mono this ?_
  rintro e w' ⟨rfl, h1, h2, h3⟩
  refine ⟨rfl, .inr ?_, h2, h3⟩
  rw [show Lib.byteCells (l ++ s.data.toList) = Lib.byteCells l ++ Lib.strCells s by simp [Lib.byteCells, Lib.strCells]]
  exact h1
theorem heap_new (w : World) (o : Obj) : (w.alloc o).heap[w.heap.size]? = some o := by simp only [World.alloc, Array.getElem?_push_size]
theorem Bld.lt {B b : Nat} {l : List UInt8} {w : World} (h : Bld B b l w) : b < w.heap.size := h.elim (fun x => x.lt) (fun x => x.lt)
theorem bld_new (w : World) : Bld w.heap.size w.heap.size [] (w.alloc (.cells #[.pointer none, .slice none 0 0] 166)) :=
  .inl ⟨Nat.le_refl _, .slice none 0 0, heap_new _ _, World.ownsRowF_nil _ _ _ _, by simp [Value.ownBlock]⟩
theorem others_cell {b : Option Nat} {w w' : World} (h : Lib.OthersKept 5 b w w') {k : Nat} {c : Array Value} {ty : TypeId} {fz : Nat × Nat} (hk : w.heap[k]? = some (.cells c ty fz)) (hb : some k ≠ b) (ht : ty ≠ 5) : w'.heap[k]? = some (.cells c ty fz) :=
  h k _ hk hb (fun c' fz' e => ht (by injection e))
/-- a path's text -/
def stepT (s : PStep) : List UInt8 := if s.place = true then Lib.itoa s.at_ else keyT s.key.data.toList
def textP (ps : List PStep) : List UInt8 := ps.flatMap fun s => 47 :: stepT s
def Small (s : PStep) : Prop := s.key.size ≤ 1000000 ∧ -9223372036854775808 ≤ s.at_ ∧ s.at_ ≤ 9223372036854775807
theorem stepT_len {s : PStep} (h : Small s) : (stepT s).length ≤ 2000002 := by
  unfold stepT
  split
  · have := Lib.itoa_length_le s.at_ h.2.1 h.2.2; omega
  · have h1 := esc_len s.key.data.toList
    have h2 := h.1
    rw [size_list] at h1
    unfold keyT
    split
    · simp only [List.length_append, List.length_cons, List.length_nil]; omega
    · omega
theorem textP_len : ∀ (ps : List PStep), (∀ s ∈ ps, Small s) → (textP ps).length ≤ ps.length * 2000003
  | [], _ => Nat.zero_le _
  | s :: r, h => by
    have h1 := textP_len r fun t ht => h t (List.mem_cons_of_mem _ ht)
    have h2 := stepT_len (h s (List.mem_cons_self ..))
    show (47 :: stepT s ++ textP r).length ≤ _
    rw [List.length_append, List.length_cons, List.length_cons]
    omega
theorem textP_snoc {ps : List PStep} {j : Nat} {s : PStep} (h : ps[j]? = some s) : textP (ps.take (j + 1)) = (textP (ps.take j) ++ [47]) ++ stepT s := by
  obtain ⟨q1, q2⟩ := List.getElem?_eq_some_iff.1 h
  rw [List.take_succ_eq_append_getElem q1, q2]
  simp [textP]
set_option maxRecDepth 100000 in
set_option maxHeartbeats 1000000 in
theorem ptext_any (ps : List PStep) (v : Value) (w : World) (hp : InP w ps v) (hg : Glob5 w) (hl : ps.length ≤ 1000000) (hk : ∀ s ∈ ps, Small s) :
    Calls Tryz.prog 70 #[v] w fun e w' => e = .returned (.string (mkS (textP ps))) ∧ Below w.heap.size w w' := by
  obtain ⟨a, ⟨o, c, rfl, g1, g2, g3⟩, gc⟩ := hp
  unfold maxLen at g2
  have GC := hid gc
  have GK := hid hk
  have HG := hid hg
  have hbn := bld_new w
  have HBN := hid hbn
  clear gc hbn hk hg
  go_enter Tryz.func70, Tryz.ntmps70
  go_wp2_with fail
  go_loopw [8] (fun i wr => ∃ (j : Nat), i = .int .i64 j ∧ j ≤ ps.length ∧ Hid (Bld w.heap.size w.heap.size (textP (ps.take j)) wr) ∧ Hid (Below w.heap.size w wr)) (fun i _ => ps.length - (intOf i).toNat)
  case atStart => exact ⟨0, rfl, Nat.zero_le _, HBN.out, valloc_bel (Below.refl _ _) _⟩
  case round =>
    obtain ⟨j, rfl, hj, HD, HB⟩ := hrel
    by_cases hlt : j < ps.length
    · obtain ⟨s, hs⟩ : ∃ s, ps[j]? = some s := ⟨ps[j], List.getElem?_eq_getElem hlt⟩
      obtain rfl := g3 (by omega)
      obtain ⟨c0, c1, c2, -⟩ := GC.out j s hs
      replace c0 := keepCell HB.out c0
      replace c1 := keepCell HB.out c1
      replace c2 := keepCell HB.out c2
      have hsm := GK.out s (List.mem_of_getElem? hs)
      have hln := textP_len (ps.take j) fun t ht => GK.out t (List.mem_of_mem_take ht)
      have hsl := stepT_len hsm
      have HT := hid (textP_snoc hs)
      have hlj : (textP (ps.take j)).length ≤ 2000003000000 := by
        rw [List.length_take] at hln
        refine Nat.le_trans hln (Nat.le_trans (Nat.mul_le_mul_right _ (Nat.le_trans (Nat.min_le_left _ _) (Nat.le_trans hj hl))) (by decide))
      have hltw := HD.out.lt
      have hsz := HB.out.size
      generalize hl0 : textP (ps.take j) = l0 at *
      have C1 := hid (fun (X : World) (hX : Below wr.heap.size wr X) => show Calls Tryz.prog 100 #[.pointer (some ⟨w.heap.size, 0, none⟩), .int .u8 47] X fun e w' => e = .returned .nilIface ∧ Bld w.heap.size w.heap.size (l0 ++ [47]) w' ∧ Below w.heap.size X w' ∧ Lib.OthersKept 5 (some w.heap.size) X w' from wbyte_any w.heap.size w.heap.size l0 47 X (HD.out.onto hX) (by omega) (Nat.le_trans hsz hX.size))
      clear hs hl0 hln
      obtain ⟨key, at_, pl⟩ := s
      simp only at c0 c1 c2
      go_wp2_with fail
      go_at_call 100
      refine (C1.out _ (valloc_bel (Below.refl _ _) _)).mono ?_
      rintro e w1 ⟨rfl, d1, b1, k1⟩
      have hbox := others_cell k1 (heap_new wr _) (by intro h; injection h with h; omega) (by decide)
      have x0 := cell_of_row w1 wr.heap.size 0 _ _ _ hbox
      have x1 := cell_of_row w1 wr.heap.size 1 _ _ _ hbox
      have x2 := cell_of_row w1 wr.heap.size 2 _ _ _ hbox
      simp at x0 x1 x2
      have HB1 := hid ((valloc_bel HB.out _).trans b1)
      have hs1 := HB1.out.size
      have HD1 := hid d1
      have hg1 := HG.out.on HB1.out
      clear hbox k1 d1 b1 c0 c1 c2 C1
      cases pl with
      | true =>
        have CI := hid (Tryz.strconv_Itoa at_ hsm.2.1 hsm.2.2 w1 hg1.tab)
        unfold stepT at HT hsl
        simp only [if_true] at HT hsl
        have CW := hid (fun (X : World) (hX : Below w1.heap.size w1 X) => wstr_any w.heap.size w.heap.size (l0 ++ [47]) ⟨(Lib.itoa at_).toArray⟩ X (HD1.out.onto hX) (by simp [ByteArray.size]; omega) (Nat.le_trans hs1 hX.size))
        clear hsm hg1 hsl
        go_wp2_with fail
        go_at_call 102
        refine CI.out.mono ?_
        rintro e w2 ⟨rfl, k2, os2, hw2⟩
        have b2 : Below w1.heap.size w1 w2 := by rw [hw2]; exact Lib.below_grow _ _ (Nat.le_refl _) _ _
        have HB2 := hid (vonto HB1.out b2)
        have C3 := hid (CW.out w2 b2)
        clear CW b2 hw2
        go_wp2_with fail
        go_at_call 101
        refine C3.out.mono ?_
        rintro e w3 ⟨rfl, d3, b3, -⟩
        have HD3 := hid d3
        have HB3 := hid (HB2.out.trans b3)
        clear d3 b3
        go_wp2_with fail
        go_roundw
        case rel => exact ⟨j + 1, val_int (by omega), hlt, by rw [HT.out]; exact HD3.out, HB3.out⟩
        case measure => simp [intOf]; omega
      | false =>
        have CI := hid (ktext_any key w1 hg1 (Nat.le_trans hsm.1 (by decide)))
        unfold stepT at HT hsl
        simp only [Bool.false_eq_true, if_false] at HT hsl
        have CW := hid (fun (X : World) (hX : Below w1.heap.size w1 X) => wstr_any w.heap.size w.heap.size (l0 ++ [47]) (mkS (keyT key.data.toList)) X (HD1.out.onto hX) (by rw [← size_list, mkS_list]; simp; omega) (Nat.le_trans hs1 hX.size))
        rw [mkS_list] at CW
        clear hsm hg1 hsl
        go_wp2_with fail
        go_at_call 103
        refine CI.out.mono ?_
        rintro e w2 ⟨rfl, b2⟩
        have HB2 := hid (vonto HB1.out b2)
        have C3 := hid (CW.out w2 b2)
        clear CW b2
        go_wp2_with fail
        go_at_call 101
        refine C3.out.mono ?_
        rintro e w3 ⟨rfl, d3, b3, -⟩
        have HD3 := hid d3
        have HB3 := hid (HB2.out.trans b3)
        clear d3 b3
        go_wp2_with fail
        go_roundw
        case rel => exact ⟨j + 1, val_int (by omega), hlt, by rw [HT.out]; exact HD3.out, HB3.out⟩
        case measure => simp [intOf]; omega
    · have htk : ps.take j = ps := List.take_of_length_le (by omega)
      rw [htk] at HD
      have hsz := HB.out.size
      have CS := hid (Tryz.Builder_String_any_k w.heap.size w.heap.size (textP ps) wr HD.out hsz)
      clear htk
      go_wp2_with fail
      go_at_call 104
      refine CS.out.mono ?_
      rintro e w1 ⟨rfl, -, b1, -⟩
      have HB1 := hid (HB.out.trans b1)
      clear b1
      go_wp2_with fail
      go_ret
      exact ⟨rfl, HB1.out⟩
end Go.Proofs.YtadbeodeiijhdaaGreatDoor
namespace Go.Proofs.YtadbeodeiijhdaaGreatDoor
open Go.RowKit

/-- two texts alike; loosely: two numbers alike -/
def strB (lo : Bool) (k : Int) (s t : ByteArray) : Bool := decide (s = t) || (lo && decide (k = 3) && decide (cmpI s.data.toList t.data.toList = 0))
mutual
def sameT (lo : Bool) : VT → VT → Bool
  | .mk k n s L K V, T => decide (k = T.kd ∧ n = T.nm ∧ L.length = T.ls.length ∧ V.length = T.vs.length) && strB lo k s T.st && sameL lo L T.ls && decide (K = T.ks) && sameL lo V T.vs
def sameL (lo : Bool) : List VT → List VT → Bool
  | [], _ => true
  | _ :: _, [] => false
  | t :: r, t' :: r' => sameT lo t t' && sameL lo r r'
end
theorem sameL_get (lo : Bool) : ∀ (L M : List VT), L.length = M.length → (sameL lo L M = true ↔ ∀ (i : Nat) (t u : VT), L[i]? = some t → M[i]? = some u → sameT lo t u = true)
  | [], M, _ => by simp [sameL]
  | a :: r, [], h => by simp at h
  | a :: r, b :: r', h => by
    simp only [sameL, Bool.and_eq_true]
    rw [sameL_get lo r r' (by simpa using h)]
    constructor
    · rintro ⟨h1, h2⟩ i t u hi hj
      cases i with
      | zero => simp at hi hj; subst hi hj; exact h1
      | succ i => simp at hi hj; exact h2 i t u hi hj
    · intro g
      exact ⟨g 0 a b rfl rfl, fun i t u hi hj => g (i + 1) t u (by simpa using hi) (by simpa using hj)⟩
theorem box2_cell (w wr : World) (c0 c1 c2 c3 c4 : Value) (t : TypeId) (o : Obj) (h : Below (w.heap.size + 2) ((w.alloc (.cells #[c0, c1, c2, c3, c4] t)).alloc o) wr) (j : Nat) (u : Value) (hj : [c0, c1, c2, c3, c4][j]? = some u) : wr.cell? ⟨w.heap.size, j, none⟩ = some u := by
  have hb : Below (w.heap.size + 1) (w.alloc (.cells #[c0, c1, c2, c3, c4] t)) wr := ((Below.refl _ _).alloc (by simp) _).trans (h.mono (by omega))
  exact box_cell w wr c0 c1 c2 c3 c4 t hb j u hj
theorem box2_next (w wr : World) (c0 c1 c2 c3 c4 : Value) (t : TypeId) (o : Obj) (h : Below (w.heap.size + 2) ((w.alloc o).alloc (.cells #[c0, c1, c2, c3, c4] t)) wr) (j : Nat) (u : Value) (hj : [c0, c1, c2, c3, c4][j]? = some u) : wr.cell? ⟨w.heap.size + 1, j, none⟩ = some u := by
  have e : (w.alloc o).heap.size = w.heap.size + 1 := by simp
  have := box_cell (w.alloc o) wr c0 c1 c2 c3 c4 t (by rw [e]; exact h) j u hj
  rwa [e] at this
theorem str_ne (s t : ByteArray) (h : ¬ s = t) : (s.toList == t.toList) = false := by
  rw [beq_eq_false_iff_ne, Lib.toList_data, Lib.toList_data]
  intro hc; apply h; rw [mkS_of s _ rfl, mkS_of t _ rfl, hc]
theorem HV.parts {w : World} {T : VT} {x y : Value} (h : HV w T x y) : ∃ (a b : Addr) (f g p q : Nat → Value) (oL oM : Option Addr) (cL cM : Nat),
    x = .slice oL T.ls.length cL ∧ y = .slice oM T.vs.length cM ∧ T.ls.length ≤ 2 ^ 63 - 1 ∧ T.vs.length ≤ 2 ^ 63 - 1 ∧ (0 < T.ls.length → oL = some a) ∧ (0 < T.vs.length → oM = some b) ∧ T.ks.length = T.vs.length ∧ T.st.size ≤ maxLen ∧
    T.ls.length ≤ cL ∧ T.vs.length ≤ cM ∧
    (∀ i t, T.ls[i]? = some t → Node w (a.add (i * 5)) t (f i) (g i)) ∧ (∀ i u, T.ks[i]? = some u → w.cell? (b.add (i * 6)) = some (.string u) ∧ u.size ≤ maxLen) ∧ (∀ i t, T.vs[i]? = some t → Node w (nx (b.add (i * 6))) t (p i) (q i)) ∧
    (∀ i t, T.ls[i]? = some t → HV w t (f i) (g i)) ∧ (∀ i t, T.vs[i]? = some t → HV w t (p i) (q i)) ∧ (Lit.int .i64 T.kd).wf = true ∧ (Lit.int .i64 T.nm).wf = true := by
  cases h with
  | mk a b f g p q hk hn hs hL hM hK cL cK cM rL rM =>
    obtain ⟨oL, capL, rfl, hL1, hL2, hL3⟩ := hL
    obtain ⟨oM, capM, rfl, hM1, hM2, hM3⟩ := hM
    unfold maxLen at hL2 hM2
    exact ⟨a, b, f, g, p, q, oL, oM, capL, capM, rfl, rfl, Nat.le_trans hL1 hL2, Nat.le_trans hM1 hM2, hL3, hM3, hK, hs, hL1, hM1, cL, cK, cM, rL, rM, hk, hn⟩
theorem sameT_eq (lo : Bool) (T U : VT) : sameT lo T U = (decide (T.kd = U.kd ∧ T.nm = U.nm ∧ T.ls.length = U.ls.length ∧ T.vs.length = U.vs.length) && strB lo T.kd T.st U.st && sameL lo T.ls U.ls && decide (T.ks = U.ks) && sameL lo T.vs U.vs) := by
  cases T; rw [sameT]; rfl
end Go.Proofs.YtadbeodeiijhdaaGreatDoor
