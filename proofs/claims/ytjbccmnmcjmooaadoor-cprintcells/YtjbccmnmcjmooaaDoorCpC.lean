import Derived.Test.YtjbccmnmcjmooaaDoorCpB
import Derived.Shelf.Strings.BuilderK
import Derived.Lib.OthersKept
/- cprint.Print: the library's builder; rows that are handed in. -/
namespace Go.Proofs.YtjbccmnmcjmooaaDoor
open Go.RowKit

/-- where the library's builder stands in this translation -/
def renB : Go.Shelf.Ren := ⟨fun | 166 => 20 | 240 => 32 | 276 => 42 | n => n, fun | 0 => 0 | 3 => 3 | 4 => 4 | 5 => 5 | 9 => 9 | 20 => 20 | 37 => 39 | 70 => 38 | 72 => 41 | 75 => 43 | 80 => 46 | 164 => 73 | n => n, fun | n => n⟩
theorem lays166 : Go.Proofs.Lays.n166 Tryd.prog renB := {
  mixed := by kernel_rfl
  f166 := Tryd.func20.trans (congrArg some (by kernel_rfl))
  f240 := Tryd.func32.trans (congrArg some (by kernel_rfl))
  f276 := Tryd.func42.trans (congrArg some (by kernel_rfl))
  t0 := Tryd.underlying0
  a0 := Tryd.isAgg0
  z0 := Tryd.sizeOf0
  v0 := Tryd.zeroValue0
  t3 := Tryd.underlying3
  a3 := Tryd.isAgg3
  z3 := Tryd.sizeOf3
  v3 := Tryd.zeroValue3
  t4 := Tryd.underlying4
  a4 := Tryd.isAgg4
  z4 := Tryd.sizeOf4
  v4 := Tryd.zeroValue4
  t9 := Tryd.underlying9
  a9 := Tryd.isAgg9
  z9 := Tryd.sizeOf9
  v9 := Tryd.zeroValue9
  t20 := Tryd.underlying20
  a20 := Tryd.isAgg20
  z20 := Tryd.sizeOf20
  v20 := Tryd.zeroValue20
  t37 := Tryd.underlying39
  a37 := Tryd.isAgg39
  z37 := Tryd.sizeOf39
  v37 := Tryd.zeroValue39
  t70 := Tryd.underlying38
  a70 := Tryd.isAgg38
  z70 := Tryd.sizeOf38
  v70 := Tryd.zeroValue38
  t72 := Tryd.underlying41
  a72 := Tryd.isAgg41
  z72 := Tryd.sizeOf41
  v72 := Tryd.zeroValue41
  t75 := Tryd.underlying43
  a75 := Tryd.isAgg43
  z75 := Tryd.sizeOf43
  v75 := Tryd.zeroValue43
  t164 := Tryd.underlying73
  a164 := Tryd.isAgg73
  z164 := Tryd.sizeOf73
  v164 := Tryd.zeroValue73 }
theorem extraB : Builder.Extra Tryd.prog renB := {
  sizeBuilder := by kernel_rfl
  liesBuilder := by kernel_rfl
  t5 := Tryd.underlying5
  a5 := Tryd.isAgg5
  z5 := Tryd.sizeOf5
  v5 := Tryd.zeroValue5
  infoByte := by kernel_rfl
  cellsByte := by kernel_rfl
  sizeByte := by kernel_rfl
  neB5 := by decide }
/-- a builder that holds these bytes -/
def Bld (B b : Nat) (l : List UInt8) (w : World) : Prop := Lib.IsBuilderF 41 5 B b (Lib.byteCells l) w
theorem Bld.onto {B b : Nat} {l : List UInt8} {w w' : World} (h : Bld B b l w) (hb : Below w.heap.size w w') : Bld B b l w' := by
  have one : ∀ p, Lib.BuilderAtF 41 5 B b p (Lib.byteCells l) w → Lib.BuilderAtF 41 5 B b p (Lib.byteCells l) w' := by
    rintro p ⟨hB, v, h1, h2, h3⟩
    refine ⟨hB, v, ?_, ⟨h2.1, ?_⟩, h3⟩
    · rw [hb.block b (Array.getElem?_eq_some_iff.1 h1).1]; exact h1
    · rcases h2.2 with hn | ⟨g, cap, cur, fz, rfl, hb2, hgg, rest⟩
      · exact .inl hn
      · exact .inr ⟨g, cap, cur, fz, rfl, hb2, by rw [hb.block g (Array.getElem?_eq_some_iff.1 hgg).1]; exact hgg, rest⟩
  exact h.elim (fun x => .inl (one _ x)) (fun x => .inr (one _ x))
theorem wstr_any (B b : Nat) (l : List UInt8) (s : ByteArray) (w : World) (h : Bld B b l w) (hlen : l.length + s.size ≤ 140737488355328) (hB : B ≤ w.heap.size) :
    Calls Tryd.prog 20 #[.pointer (some ⟨b, 0, none⟩), .string s] w fun e w' => e = .returned (.tuple #[.int .i64 s.size, .nilIface]) ∧ Bld B b (l ++ s.data.toList) w' ∧ Below B w w' ∧ Lib.OthersKept 5 (some b) w w' := by
  have := Any.Builder_WriteString_k lays166 extraB B b (Lib.byteCells l) s w h (by rw [Lib.byteCells_length]; exact hlen) hB
  refine Calls.mono this ?_
  rintro e w' ⟨rfl, h1, h2, h3⟩
  refine ⟨rfl, .inr ?_, h2, h3⟩
  rw [show Lib.byteCells (l ++ s.data.toList) = Lib.byteCells l ++ Lib.strCells s by simp [Lib.byteCells, Lib.strCells]]
  exact h1
theorem heap_new (w : World) (o : Obj) : (w.alloc o).heap[w.heap.size]? = some o := by simp only [World.alloc, Array.getElem?_push_size]
theorem Bld.lt {B b : Nat} {l : List UInt8} {w : World} (h : Bld B b l w) : b < w.heap.size := h.elim (fun x => x.lt) (fun x => x.lt)
theorem bld_new (w : World) : Bld w.heap.size w.heap.size [] (w.alloc (.cells #[.pointer none, .slice none 0 0] 41)) :=
  .inl ⟨Nat.le_refl _, .slice none 0 0, heap_new _ _, World.ownsRowF_nil _ _ _ _, by simp [Value.ownBlock]⟩
theorem others_cell {b : Option Nat} {w w' : World} (h : Lib.OthersKept 5 b w w') {k : Nat} {c : Array Value} {ty : TypeId} {fz : Nat × Nat} (hk : w.heap[k]? = some (.cells c ty fz)) (hb : some k ≠ b) (ht : ty ≠ 5) : w'.heap[k]? = some (.cells c ty fz) :=
  h k _ hk hb (fun c' fz' e => ht (by injection e))

/-- rows that are handed in -/
def InR (w : World) (rows : List (List ByteArray)) (v : Value) : Prop := ∃ (a : Addr), SlOf v a rows.length ∧ ∀ i ks, rows[i]? = some ks → ∃ u, w.cell? (a.add i) = some u ∧ InS w ks u
theorem InR.onto {w w' : World} {rows : List (List ByteArray)} {v : Value} (h : InR w rows v) (hb : Below w.heap.size w w') : InR w' rows v := by
  obtain ⟨a, h1, h2⟩ := h
  refine ⟨a, h1, fun i c hc => ?_⟩
  obtain ⟨u, g1, g2⟩ := h2 i c hc
  exact ⟨u, keepCell hb g1, g2.onto hb⟩
/-- rows that are not too great -/
def RBnd (rows : List (List ByteArray)) : Prop := rows.length ≤ 1000 ∧ ∀ ks ∈ rows, ks.length ≤ 1000 ∧ ∀ s ∈ ks, s.size ≤ 100000
/-- rows' bytes -/
def rb (rows : List (List ByteArray)) : List (List (List UInt8)) := rows.map (fun ks => ks.map (·.data.toList))
theorem prow_len (ks : List ByteArray) (h1 : ks.length ≤ 1000) (h2 : ∀ s ∈ ks, s.size ≤ 100000) : (rowB (ks.map (·.data.toList))).length ≤ 300000000 := by
  unfold rowB
  generalize decide ((ks.map (·.data.toList)).length = 1) = al
  have := pjoin_len 200002 ((ks.map (·.data.toList)).map (fldB · al)) (fun x hx => by
    obtain ⟨y, hy, rfl⟩ := List.mem_map.1 hx
    obtain ⟨s, hs1, rfl⟩ := List.mem_map.1 hy
    have h1 := fldB_len s.data.toList al
    have h2 := h2 s hs1
    rw [size_list] at h1; omega)
  rw [List.length_map, List.length_map] at this
  rw [List.length_append]
  simp only [List.length_cons, List.length_nil]
  omega
theorem prn_take (rows : List (List ByteArray)) (j : Nat) (ks : List ByteArray) (h : rows[j]? = some ks) : prnB ((rb rows).take (j + 1)) = prnB ((rb rows).take j) ++ rowB (ks.map (·.data.toList)) := by
  unfold prnB rb
  rw [List.take_add_one, List.getElem?_map, h]
  simp
theorem prn_len (rows : List (List ByteArray)) (h : RBnd rows) : ∀ j, j ≤ rows.length → (prnB ((rb rows).take j)).length ≤ j * 300000000
  | 0, _ => by simp [prnB]
  | j + 1, hj => by
    have ih := prn_len rows h j (by omega)
    have hx : rows[j]? = some (rows[j]'(by omega)) := List.getElem?_eq_getElem (by omega)
    have hm := List.mem_of_getElem? hx
    have := prow_len _ (h.2 _ hm).1 (h.2 _ hm).2
    rw [prn_take rows j _ hx, List.length_append]
    omega
set_option maxRecDepth 100000 in
set_option maxHeartbeats 1000000 in
theorem pprint_any (rows : List (List ByteArray)) (v : Value) (w : World) (hg : GlobC w) (h : InR w rows v) (hn : RBnd rows) :
    Calls Tryd.prog 9 #[v] w fun e w' => e = .returned (.string (mkS (prnB (rb rows)))) ∧ Below w.heap.size w w' := by
  obtain ⟨a, ⟨o, cap, rfl, hc1, hc2, ho⟩, hcell⟩ := h
  unfold maxLen at hc2
  have HN := hid hn
  have hn1 := hn.1
  have hall : (rb rows).take rows.length = rb rows := by unfold rb; exact List.take_of_length_le (by simp)
  have HL := hid hall
  have CL := hid (fun (ks : List ByteArray) (hz : ks ∈ rows) (u : Value) (X : World) (hX : Below w.heap.size w X) (hu : InS X ks u) => pline_any ks u X (hg.on hX) hu (by have := (hn.2 ks hz).1; omega) (fun s hs => by have := (hn.2 ks hz).2 s hs; omega))
  have HB0 := hid (valloc_bel (Below.refl w.heap.size w) (.cells #[.pointer none, .slice none 0 0] 41))
  have HD0 := hid (bld_new w)
  have HCE := hid hcell
  clear hg hn hall hcell
  go_enter Tryd.func9, Tryd.ntmps9
  go_wp2_with fail
  generalize hA : w.alloc (.cells #[.pointer none, .slice none 0 0] 41) = A at HB0 HD0 ⊢
  clear hA
  go_loopw [8] (fun i wr => ∃ j : Nat, j ≤ rows.length ∧ i = .int .i64 j ∧ Hid (Below w.heap.size w wr) ∧ Hid (Bld w.heap.size w.heap.size (prnB ((rb rows).take j)) wr)) (fun i _ => rows.length - (intOf i).toNat)
  case atStart => exact ⟨0, Nat.zero_le _, rfl, HB0.out, HD0.out⟩
  case round =>
    obtain ⟨j, hj, rfl, HB, HD⟩ := hrel
    by_cases hlt : j < rows.length
    · obtain ⟨ks, hk⟩ : ∃ ks, rows[j]? = some ks := ⟨rows[j], List.getElem?_eq_getElem hlt⟩
      obtain rfl := ho (by omega)
      obtain ⟨u, hu, hin⟩ := HCE.out j ks hk
      obtain ⟨ou, nu, cu, rfl⟩ : ∃ ou nu cu, u = .slice ou nu cu := by
        obtain ⟨_, ⟨ou, cu, e, -⟩, -⟩ := hin
        exact ⟨ou, _, cu, e⟩
      have d0 := keepCell HB.out hu
      have hmem := List.mem_of_getElem? hk
      have C1 := hid (CL.out ks hmem _ wr HB.out (hin.onto HB.out))
      have hrz : (mkS (rowB (ks.map (·.data.toList)))).size ≤ 300000000 := by rw [mkS_size]; exact prow_len ks (HN.out.2 ks hmem).1 (HN.out.2 ks hmem).2
      have HT := hid (prn_take rows j ks hk)
      have hpz := prn_len rows HN.out j hj
      have CW := hid (fun (X : World) (hX : Below wr.heap.size wr X) => wstr_any w.heap.size w.heap.size (prnB ((rb rows).take j)) (mkS (rowB (ks.map (·.data.toList)))) X (HD.out.onto hX) (by omega) (Nat.le_trans HB.out.size hX.size))
      rw [mkS_list, ← HT.out] at CW
      clear hu hin hk hmem CL hpz HT
      generalize mkS (rowB (ks.map (·.data.toList))) = R at C1 hrz CW
      go_wp2_with fail
      go_at_call 19
      refine C1.out.mono ?_
      rintro e w1 ⟨rfl, hb1⟩
      have C2 := hid (CW.out w1 hb1)
      have HB1 := hid (vonto HB.out hb1)
      clear hb1 C1 CW HB HD
      go_wp2_with fail
      go_at_call 20
      refine C2.out.mono ?_
      rintro e w2 ⟨rfl, d2, b2, -⟩
      have HD2 := hid d2
      have HB2 := hid (HB1.out.trans b2)
      clear d2 b2 C2
      go_wp2_with fail
      go_roundw
      case rel => exact ⟨j + 1, hlt, val_int (by omega), HB2.out, HD2.out⟩
      case measure => simp [intOf]; omega
    · obtain rfl : j = rows.length := by omega
      rw [HL.out] at HD
      have hsz := HB.out.size
      have CS := hid (Tryd.Builder_String_any_k w.heap.size w.heap.size (prnB (rb rows)) wr HD.out hsz)
      go_wp2_with fail
      go_at_call 21
      refine CS.out.mono ?_
      rintro e w1 ⟨rfl, -, b1, -⟩
      have HB1 := hid (HB.out.trans b1)
      clear b1 CS
      go_wp2_with fail
      go_ret
      exact ⟨rfl, HB1.out⟩
end Go.Proofs.YtjbccmnmcjmooaaDoor
