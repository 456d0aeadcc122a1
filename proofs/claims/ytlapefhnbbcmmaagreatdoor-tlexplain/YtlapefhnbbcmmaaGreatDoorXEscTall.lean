
import Derived.Test.YtlapefhnbbcmmaaGreatDoorXEscTun
import Derived.Deep.CutBlock
import Derived.Deep.CutRange
/- The loop of the document's TUnquote, its round by cases: what all cases share. -/
/- The loop of the document's TUnquote: at the text's end. -/
/- The loop of the document's TUnquote: at the quote. -/
/- The loop of the document's TUnquote: at the quote, of many lines. -/
/- The loop of the document's TUnquote: at a stroke. -/
/- The loop of the document's TUnquote: at a letter that may not be there. -/
/- The loop of the document's TUnquote: at a letter. -/
namespace Go.Proofs.YtlapefhnbbcmmaaGreatDoor
open Go.RowKit

/-- the first loop's body in a code -/
def firstLoop : Code → Option Code
  | .loop c => some c
  | .seq a b => match firstLoop a with
    | some c => some c
    | none => firstLoop b
  | .block _ c => firstLoop c
  | .scope c => firstLoop c
  | .cond _ a b => match firstLoop a with
    | some c => some c
    | none => firstLoop b
  | _ => none
/-- a list of known length, written out -/
theorem list_lit : ∀ (n : Nat) (l : List Value), l.length = n → l = (List.range n).map (fun k => l.getD k undef)
  | n, l, h => by
    apply List.ext_getElem
    · simp [h]
    · intro k h1 h2
      simp [List.getD, List.getElem?_eq_getElem h1]
set_option maxRecDepth 100000 in
theorem lit_frame (x : Array Value) (h : x.size = 265) : x = #[x.getD 0 undef, x.getD 1 undef, x.getD 2 undef, x.getD 3 undef, x.getD 4 undef, x.getD 5 undef, x.getD 6 undef, x.getD 7 undef, x.getD 8 undef, x.getD 9 undef, x.getD 10 undef, x.getD 11 undef, x.getD 12 undef, x.getD 13 undef, x.getD 14 undef, x.getD 15 undef, x.getD 16 undef, x.getD 17 undef, x.getD 18 undef, x.getD 19 undef, x.getD 20 undef, x.getD 21 undef, x.getD 22 undef, x.getD 23 undef, x.getD 24 undef, x.getD 25 undef, x.getD 26 undef, x.getD 27 undef, x.getD 28 undef, x.getD 29 undef, x.getD 30 undef, x.getD 31 undef, x.getD 32 undef, x.getD 33 undef, x.getD 34 undef, x.getD 35 undef, x.getD 36 undef, x.getD 37 undef, x.getD 38 undef, x.getD 39 undef, x.getD 40 undef, x.getD 41 undef, x.getD 42 undef, x.getD 43 undef, x.getD 44 undef, x.getD 45 undef, x.getD 46 undef, x.getD 47 undef, x.getD 48 undef, x.getD 49 undef, x.getD 50 undef, x.getD 51 undef, x.getD 52 undef, x.getD 53 undef, x.getD 54 undef, x.getD 55 undef, x.getD 56 undef, x.getD 57 undef, x.getD 58 undef, x.getD 59 undef, x.getD 60 undef, x.getD 61 undef, x.getD 62 undef, x.getD 63 undef, x.getD 64 undef, x.getD 65 undef, x.getD 66 undef, x.getD 67 undef, x.getD 68 undef, x.getD 69 undef, x.getD 70 undef, x.getD 71 undef, x.getD 72 undef, x.getD 73 undef, x.getD 74 undef, x.getD 75 undef, x.getD 76 undef, x.getD 77 undef, x.getD 78 undef, x.getD 79 undef, x.getD 80 undef, x.getD 81 undef, x.getD 82 undef, x.getD 83 undef, x.getD 84 undef, x.getD 85 undef, x.getD 86 undef, x.getD 87 undef, x.getD 88 undef, x.getD 89 undef, x.getD 90 undef, x.getD 91 undef, x.getD 92 undef, x.getD 93 undef, x.getD 94 undef, x.getD 95 undef, x.getD 96 undef, x.getD 97 undef, x.getD 98 undef, x.getD 99 undef, x.getD 100 undef, x.getD 101 undef, x.getD 102 undef, x.getD 103 undef, x.getD 104 undef, x.getD 105 undef, x.getD 106 undef, x.getD 107 undef, x.getD 108 undef, x.getD 109 undef, x.getD 110 undef, x.getD 111 undef, x.getD 112 undef, x.getD 113 undef, x.getD 114 undef, x.getD 115 undef, x.getD 116 undef, x.getD 117 undef, x.getD 118 undef, x.getD 119 undef, x.getD 120 undef, x.getD 121 undef, x.getD 122 undef, x.getD 123 undef, x.getD 124 undef, x.getD 125 undef, x.getD 126 undef, x.getD 127 undef, x.getD 128 undef, x.getD 129 undef, x.getD 130 undef, x.getD 131 undef, x.getD 132 undef, x.getD 133 undef, x.getD 134 undef, x.getD 135 undef, x.getD 136 undef, x.getD 137 undef, x.getD 138 undef, x.getD 139 undef, x.getD 140 undef, x.getD 141 undef, x.getD 142 undef, x.getD 143 undef, x.getD 144 undef, x.getD 145 undef, x.getD 146 undef, x.getD 147 undef, x.getD 148 undef, x.getD 149 undef, x.getD 150 undef, x.getD 151 undef, x.getD 152 undef, x.getD 153 undef, x.getD 154 undef, x.getD 155 undef, x.getD 156 undef, x.getD 157 undef, x.getD 158 undef, x.getD 159 undef, x.getD 160 undef, x.getD 161 undef, x.getD 162 undef, x.getD 163 undef, x.getD 164 undef, x.getD 165 undef, x.getD 166 undef, x.getD 167 undef, x.getD 168 undef, x.getD 169 undef, x.getD 170 undef, x.getD 171 undef, x.getD 172 undef, x.getD 173 undef, x.getD 174 undef, x.getD 175 undef, x.getD 176 undef, x.getD 177 undef, x.getD 178 undef, x.getD 179 undef, x.getD 180 undef, x.getD 181 undef, x.getD 182 undef, x.getD 183 undef, x.getD 184 undef, x.getD 185 undef, x.getD 186 undef, x.getD 187 undef, x.getD 188 undef, x.getD 189 undef, x.getD 190 undef, x.getD 191 undef, x.getD 192 undef, x.getD 193 undef, x.getD 194 undef, x.getD 195 undef, x.getD 196 undef, x.getD 197 undef, x.getD 198 undef, x.getD 199 undef, x.getD 200 undef, x.getD 201 undef, x.getD 202 undef, x.getD 203 undef, x.getD 204 undef, x.getD 205 undef, x.getD 206 undef, x.getD 207 undef, x.getD 208 undef, x.getD 209 undef, x.getD 210 undef, x.getD 211 undef, x.getD 212 undef, x.getD 213 undef, x.getD 214 undef, x.getD 215 undef, x.getD 216 undef, x.getD 217 undef, x.getD 218 undef, x.getD 219 undef, x.getD 220 undef, x.getD 221 undef, x.getD 222 undef, x.getD 223 undef, x.getD 224 undef, x.getD 225 undef, x.getD 226 undef, x.getD 227 undef, x.getD 228 undef, x.getD 229 undef, x.getD 230 undef, x.getD 231 undef, x.getD 232 undef, x.getD 233 undef, x.getD 234 undef, x.getD 235 undef, x.getD 236 undef, x.getD 237 undef, x.getD 238 undef, x.getD 239 undef, x.getD 240 undef, x.getD 241 undef, x.getD 242 undef, x.getD 243 undef, x.getD 244 undef, x.getD 245 undef, x.getD 246 undef, x.getD 247 undef, x.getD 248 undef, x.getD 249 undef, x.getD 250 undef, x.getD 251 undef, x.getD 252 undef, x.getD 253 undef, x.getD 254 undef, x.getD 255 undef, x.getD 256 undef, x.getD 257 undef, x.getD 258 undef, x.getD 259 undef, x.getD 260 undef, x.getD 261 undef, x.getD 262 undef, x.getD 263 undef, x.getD 264 undef] := by
  have h1 := list_lit 265 x.toList (by simpa using h)
  apply Array.ext'
  rw [h1]
  have h2 : ∀ k, x.toList.getD k undef = x.getD k undef := fun k => by simp [List.getD, Array.getD_eq_getD_getElem?]
  simp only [h2]
  rfl
/-- what a round finds and leaves -/
structure TRel (many : Bool) (t : ByteArray) (Q : Nat) (R : List UInt8 × Nat × Int) (w : World) (i f : Nat) (acc : List UInt8) (A : ByteArray) (wr : World) : Prop where
  le : i ≤ t.size
  size : A.size ≤ i
  text : A = mkS acc
  run : rd (EE many Q) (PP many Q) t.data.toList f i acc = R
  fuel : t.data.toList.length < i + f
  bel : Below w.heap.size w wr
structure TI (many : Bool) (t : ByteArray) (a : Nat) (ha : a < t.size) (Q : Nat) (R : List UInt8 × Nat × Int) (w : World) (x : Act) (wr : World) : Prop where
  def_ : x.defers = []
  len : x.tmps.size = 265
  s0 : x.tmps.getD 0 undef = .string t
  s1 : x.tmps.getD 1 undef = .int .i64 (a : Int)
  s7 : x.tmps.getD 7 undef = .int .u8 (t[a].toNat : Int)
  s8 : x.tmps.getD 8 undef = .bool many
  rel : ∃ i f acc A, x.tmps.getD 9 undef = .int .i64 ((i : Nat) : Int) ∧ x.tmps.getD 10 undef = .string A ∧ TRel many t Q R w i f acc A wr
def Tmu (t : ByteArray) (x : Act) (_ : World) : Nat := t.size - (intOf (x.tmps.getD 9 undef)).toNat
/-- where the loop is left for what stands behind it -/
structure TX (t : ByteArray) (R : List UInt8 × Nat × Int) (w : World) (x : Act) (wr : World) : Prop where
  def_ : x.defers = []
  len : x.tmps.size = 265
  s0 : x.tmps.getD 0 undef = .string t
  res : R = ([], 0, (t.size : Int))
  bel : Below w.heap.size w wr
/-- what a caller is told: that a return is what it must be -/
def TRet (R : List UInt8 × Nat × Int) (w : World) (Q0 : Exit → Act → World → Prop) : Prop := ∀ x wr, x.defers = [] →
  (results Tryz.f32 x.tmps).run Tryz.prog wr = .ok (.tuple #[.string (mkS R.1), .int .i64 ((R.2.1 : Nat) : Int), .int .i64 R.2.2]) wr → Below w.heap.size w wr → Q0 .ret x wr
end Go.Proofs.YtlapefhnbbcmmaaGreatDoor
namespace Go.Proofs.YtlapefhnbbcmmaaGreatDoor
open Go.RowKit

set_option maxRecDepth 1000000 in
set_option maxHeartbeats 4000000 in
theorem tr_end (many : Bool) (t : ByteArray) (a : Nat) (ha : a < t.size) (Q : Nat) (R : List UInt8 × Nat × Int) (w : World) (i f : Nat) (acc : List UInt8) (A : ByteArray) (c : Nat → Value) (Q0 : Exit → Act → World → Prop) (wr : World) (ht : t.size ≤ 1000000)
    (hQ : t[a].toNat = Q) (hqq : Q = 34 ∨ Q = 39) (hrel : TRel many t Q R w i f acc A wr) (hret : Hid (TRet R w Q0)) (hlt : ¬ i < t.size) (hexit : Hid (∀ x wr', TX t R w x wr' → Q0 (.exit 0) x wr')) :
    Code.wp Tryz.prog ((Tryz.f32.body.bind firstLoop).getD .skip) (Exit.then (fun x w' => TI many t a ha Q R w x w' ∧ Tmu t x w' < t.size - i) Q0) ⟨#[.string t, .int .i64 (a : Int), c 2, c 3, c 4, c 5, c 6, .int .u8 (t[a].toNat : Int), .bool many, .int .i64 (i : Int), .string A, c 11, c 12, c 13, c 14, c 15, c 16, c 17, c 18, c 19, c 20, c 21, c 22, c 23, c 24, c 25, c 26, c 27, c 28, c 29, c 30, c 31, c 32, c 33, c 34, c 35, c 36, c 37, c 38, c 39, c 40, c 41, c 42, c 43, c 44, c 45, c 46, c 47, c 48, c 49, c 50, c 51, c 52, c 53, c 54, c 55, c 56, c 57, c 58, c 59, c 60, c 61, c 62, c 63, c 64, c 65, c 66, c 67, c 68, c 69, c 70, c 71, c 72, c 73, c 74, c 75, c 76, c 77, c 78, c 79, c 80, c 81, c 82, c 83, c 84, c 85, c 86, c 87, c 88, c 89, c 90, c 91, c 92, c 93, c 94, c 95, c 96, c 97, c 98, c 99, c 100, c 101, c 102, c 103, c 104, c 105, c 106, c 107, c 108, c 109, c 110, c 111, c 112, c 113, c 114, c 115, c 116, c 117, c 118, c 119, c 120, c 121, c 122, c 123, c 124, c 125, c 126, c 127, c 128, c 129, c 130, c 131, c 132, c 133, c 134, c 135, c 136, c 137, c 138, c 139, c 140, c 141, c 142, c 143, c 144, c 145, c 146, c 147, c 148, c 149, c 150, c 151, c 152, c 153, c 154, c 155, c 156, c 157, c 158, c 159, c 160, c 161, c 162, c 163, c 164, c 165, c 166, c 167, c 168, c 169, c 170, c 171, c 172, c 173, c 174, c 175, c 176, c 177, c 178, c 179, c 180, c 181, c 182, c 183, c 184, c 185, c 186, c 187, c 188, c 189, c 190, c 191, c 192, c 193, c 194, c 195, c 196, c 197, c 198, c 199, c 200, c 201, c 202, c 203, c 204, c 205, c 206, c 207, c 208, c 209, c 210, c 211, c 212, c 213, c 214, c 215, c 216, c 217, c 218, c 219, c 220, c 221, c 222, c 223, c 224, c 225, c 226, c 227, c 228, c 229, c 230, c 231, c 232, c 233, c 234, c 235, c 236, c 237, c 238, c 239, c 240, c 241, c 242, c 243, c 244, c 245, c 246, c 247, c 248, c 249, c 250, c 251, c 252, c 253, c 254, c 255, c 256, c 257, c 258, c 259, c 260, c 261, c 262, c 263, c 264], []⟩ wr := by
  have _u : True := (fun _ _ _ _ => trivial) ht hqq hret hQ
  conv => arg 2; whnf
  have HZ := hid (size_list t)
  have hit := hrel.le
  have HRD := hid hrel.run
  have HF := hid hrel.fuel
  have HB := hid hrel.bel
  clear hrel
  have HX : Hid (∀ x wr', x.defers = [] → x.tmps.size = 265 → x.tmps.getD 0 undef = .string t → wr' = wr → Q0 (.exit 0) x wr') := fun x wr' h1 h2 h3 h4 => hexit.out x wr' ⟨h1, h2, h3, by rw [← HRD.out, rd_end HF.out (by rw [HZ.out]; omega) (by rw [HZ.out]; omega), HZ.out], by rw [h4]; exact HB.out⟩
  clear hexit hret
  go_wp2_with fail
  exact HX.out _ _ rfl rfl rfl rfl
end Go.Proofs.YtlapefhnbbcmmaaGreatDoor
namespace Go.Proofs.YtlapefhnbbcmmaaGreatDoor
open Go.RowKit

set_option maxRecDepth 1000000 in
set_option maxHeartbeats 4000000 in
theorem tr_one (t : ByteArray) (a : Nat) (ha : a < t.size) (Q : Nat) (R : List UInt8 × Nat × Int) (w : World) (i f : Nat) (acc : List UInt8) (A : ByteArray) (c : Nat → Value) (Q0 : Exit → Act → World → Prop) (wr : World) (ht : t.size ≤ 1000000)
    (hQ : t[a].toNat = Q) (hqq : Q = 34 ∨ Q = 39) (hrel : TRel false t Q R w i f acc A wr) (hret : Hid (TRet R w Q0)) (hlt : i < t.size) (hiq : t[i].toNat = t[a].toNat)  :
    Code.wp Tryz.prog ((Tryz.f32.body.bind firstLoop).getD .skip) (Exit.then (fun x w' => TI false t a ha Q R w x w' ∧ Tmu t x w' < t.size - i) Q0) ⟨#[.string t, .int .i64 (a : Int), c 2, c 3, c 4, c 5, c 6, .int .u8 (t[a].toNat : Int), .bool false, .int .i64 (i : Int), .string A, c 11, c 12, c 13, c 14, c 15, c 16, c 17, c 18, c 19, c 20, c 21, c 22, c 23, c 24, c 25, c 26, c 27, c 28, c 29, c 30, c 31, c 32, c 33, c 34, c 35, c 36, c 37, c 38, c 39, c 40, c 41, c 42, c 43, c 44, c 45, c 46, c 47, c 48, c 49, c 50, c 51, c 52, c 53, c 54, c 55, c 56, c 57, c 58, c 59, c 60, c 61, c 62, c 63, c 64, c 65, c 66, c 67, c 68, c 69, c 70, c 71, c 72, c 73, c 74, c 75, c 76, c 77, c 78, c 79, c 80, c 81, c 82, c 83, c 84, c 85, c 86, c 87, c 88, c 89, c 90, c 91, c 92, c 93, c 94, c 95, c 96, c 97, c 98, c 99, c 100, c 101, c 102, c 103, c 104, c 105, c 106, c 107, c 108, c 109, c 110, c 111, c 112, c 113, c 114, c 115, c 116, c 117, c 118, c 119, c 120, c 121, c 122, c 123, c 124, c 125, c 126, c 127, c 128, c 129, c 130, c 131, c 132, c 133, c 134, c 135, c 136, c 137, c 138, c 139, c 140, c 141, c 142, c 143, c 144, c 145, c 146, c 147, c 148, c 149, c 150, c 151, c 152, c 153, c 154, c 155, c 156, c 157, c 158, c 159, c 160, c 161, c 162, c 163, c 164, c 165, c 166, c 167, c 168, c 169, c 170, c 171, c 172, c 173, c 174, c 175, c 176, c 177, c 178, c 179, c 180, c 181, c 182, c 183, c 184, c 185, c 186, c 187, c 188, c 189, c 190, c 191, c 192, c 193, c 194, c 195, c 196, c 197, c 198, c 199, c 200, c 201, c 202, c 203, c 204, c 205, c 206, c 207, c 208, c 209, c 210, c 211, c 212, c 213, c 214, c 215, c 216, c 217, c 218, c 219, c 220, c 221, c 222, c 223, c 224, c 225, c 226, c 227, c 228, c 229, c 230, c 231, c 232, c 233, c 234, c 235, c 236, c 237, c 238, c 239, c 240, c 241, c 242, c 243, c 244, c 245, c 246, c 247, c 248, c 249, c 250, c 251, c 252, c 253, c 254, c 255, c 256, c 257, c 258, c 259, c 260, c 261, c 262, c 263, c 264], []⟩ wr := by
  have _u : True := (fun _ _ _ => trivial) ht hqq hret
  conv => arg 2; whnf
  have HZ := hid (size_list t)
  have HML := hid (show t.size ≤ maxLen from max_le ht)
  have B0 := hid (show bt (t.data.toList.drop i) 0 = t[i].toNat by rw [bt_drop]; exact bt_at t i hlt)
  have HTL := hid (show i < t.data.toList.length by rw [HZ.out]; exact hlt)
  have hit := hrel.le
  have hA := hrel.size
  have HA := hid hrel.text
  have HRD := hid hrel.run
  have HF := hid hrel.fuel
  have HB := hid hrel.bel
  have HQ := hid hQ
  have HQQ := hid hqq
  clear hrel hQ hqq
  have hlt2 : i < t.size := hlt
  have giq : ((t[i].toNat : Int) == (t[a].toNat : Int)) = true := by rw [beq_iff_eq]; omega
  have HBQ := hid (show bt (t.data.toList.drop i) 0 = Q by rw [B0.out, ← HQ.out]; exact hiq)
  have HQB := hid (show Q < 256 by have := HQQ.out; omega)
  clear hiq
  have hql := qN_le Q (t.data.toList.drop i)
  rw [List.length_drop, HZ.out] at hql
  obtain ⟨hq5, hqs⟩ := hql
  go_wp2_with fail
  go_loop [11] (fun v => ∃ n : Nat, 1 ≤ n ∧ n ≤ 5 ∧ i + n ≤ t.size ∧ v = .int .i64 n ∧ Hid (∀ j, j < n → bt (t.data.toList.drop i) j = Q)) (fun v => 5 - (intOf v).toNat)
  case atStart => exact ⟨1, by omega, by omega, by omega, rfl, fun j hj => by
    obtain rfl : j = 0 := by omega
    exact HBQ.out⟩
  case round =>
    obtain ⟨n, hn1, hn5, hns, rfl, HJ⟩ := hrel
    by_cases hin : i + n < t.size
    · have e1 : decide ((i : Int) + (n : Int) < (t.size : Int)) = true := decide_eq_true (by omega)
      have BN := hid (show bt (t.data.toList.drop i) n = t[i + n].toNat by rw [bt_drop]; exact bt_at t (i + n) hin)
      by_cases hqn : t[i + n].toNat = t[a].toNat
      · have e2 : ((t[i + n].toNat : Int) == (t[a].toNat : Int)) = true := by rw [beq_iff_eq]; omega
        have HBN := hid (show bt (t.data.toList.drop i) n = Q by rw [BN.out, ← HQ.out]; exact hqn)
        clear hqn
        by_cases h5 : n < 5
        · have HJ2 := hid (show ∀ j, j < n + 1 → bt (t.data.toList.drop i) j = Q from fun j hj => by
            by_cases e : j = n
            · rw [e]; exact HBN.out
            · exact HJ.out j (by omega))
          go_wp2_with fail
          go_round
          case rel => exact ⟨n + 1, by omega, by omega, by omega, by go_num, HJ2⟩
          case measure => simp [intOf]; omega
        · have HQN := hid (qN_eq Q (t.data.toList.drop i) n (by omega) HJ.out HQB.out (fun h => absurd h h5))
          have e5 : decide ((n : Int) < 5) = false := decide_eq_false (by omega)
          have HRR := hid (HRD.out.symm.trans (tu_end1 (acc := acc) HF.out HTL.out HBQ.out))
          go_wp2_with fail
          refine hret.out _ _ rfl ?_ HB.out
          rw [HRR.out]
          simp [results, Tryz.results32, go_sem]
          exact HA.out
      · have e2 : ((t[i + n].toNat : Int) == (t[a].toNat : Int)) = false := by rw [beq_eq_false_iff_ne]; omega
        have HQN := hid (qN_eq Q (t.data.toList.drop i) n (by omega) HJ.out HQB.out (fun _ => by rw [BN.out, ← HQ.out]; exact hqn))
        clear hqn
        have HRR := hid (HRD.out.symm.trans (tu_end1 (acc := acc) HF.out HTL.out HBQ.out))
        go_wp2_with fail
        refine hret.out _ _ rfl ?_ HB.out
        rw [HRR.out]
        simp [results, Tryz.results32, go_sem]
        exact HA.out
    · have e1 : decide ((i : Int) + (n : Int) < (t.size : Int)) = false := decide_eq_false (by omega)
      have HQN := hid (qN_eq Q (t.data.toList.drop i) n (by omega) HJ.out HQB.out (fun _ => by rw [bt_drop, bt_none (by rw [HZ.out]; omega)]; have := HQB.out; omega))
      have HRR := hid (HRD.out.symm.trans (tu_end1 (acc := acc) HF.out HTL.out HBQ.out))
      go_wp2_with fail
      refine hret.out _ _ rfl ?_ HB.out
      rw [HRR.out]
      simp [results, Tryz.results32, go_sem]
      exact HA.out
end Go.Proofs.YtlapefhnbbcmmaaGreatDoor
namespace Go.Proofs.YtlapefhnbbcmmaaGreatDoor
open Go.RowKit

set_option maxRecDepth 1000000 in
set_option maxHeartbeats 4000000 in
theorem tr_few (t : ByteArray) (a : Nat) (ha : a < t.size) (Q : Nat) (R : List UInt8 × Nat × Int) (w : World) (i f : Nat) (acc : List UInt8) (A : ByteArray) (c : Nat → Value) (Q0 : Exit → Act → World → Prop) (wr : World) (ht : t.size ≤ 1000000)
    (hQ : t[a].toNat = Q) (hqq : Q = 34 ∨ Q = 39) (hrel : TRel true t Q R w i f acc A wr) (hret : Hid (TRet R w Q0)) (hlt : i < t.size) (hiq : t[i].toNat = t[a].toNat) (h3 : qN Q (t.data.toList.drop i) < 3) :
    Code.wp Tryz.prog ((Tryz.f32.body.bind firstLoop).getD .skip) (Exit.then (fun x w' => TI true t a ha Q R w x w' ∧ Tmu t x w' < t.size - i) Q0) ⟨#[.string t, .int .i64 (a : Int), c 2, c 3, c 4, c 5, c 6, .int .u8 (t[a].toNat : Int), .bool true, .int .i64 (i : Int), .string A, c 11, c 12, c 13, c 14, c 15, c 16, c 17, c 18, c 19, c 20, c 21, c 22, c 23, c 24, c 25, c 26, c 27, c 28, c 29, c 30, c 31, c 32, c 33, c 34, c 35, c 36, c 37, c 38, c 39, c 40, c 41, c 42, c 43, c 44, c 45, c 46, c 47, c 48, c 49, c 50, c 51, c 52, c 53, c 54, c 55, c 56, c 57, c 58, c 59, c 60, c 61, c 62, c 63, c 64, c 65, c 66, c 67, c 68, c 69, c 70, c 71, c 72, c 73, c 74, c 75, c 76, c 77, c 78, c 79, c 80, c 81, c 82, c 83, c 84, c 85, c 86, c 87, c 88, c 89, c 90, c 91, c 92, c 93, c 94, c 95, c 96, c 97, c 98, c 99, c 100, c 101, c 102, c 103, c 104, c 105, c 106, c 107, c 108, c 109, c 110, c 111, c 112, c 113, c 114, c 115, c 116, c 117, c 118, c 119, c 120, c 121, c 122, c 123, c 124, c 125, c 126, c 127, c 128, c 129, c 130, c 131, c 132, c 133, c 134, c 135, c 136, c 137, c 138, c 139, c 140, c 141, c 142, c 143, c 144, c 145, c 146, c 147, c 148, c 149, c 150, c 151, c 152, c 153, c 154, c 155, c 156, c 157, c 158, c 159, c 160, c 161, c 162, c 163, c 164, c 165, c 166, c 167, c 168, c 169, c 170, c 171, c 172, c 173, c 174, c 175, c 176, c 177, c 178, c 179, c 180, c 181, c 182, c 183, c 184, c 185, c 186, c 187, c 188, c 189, c 190, c 191, c 192, c 193, c 194, c 195, c 196, c 197, c 198, c 199, c 200, c 201, c 202, c 203, c 204, c 205, c 206, c 207, c 208, c 209, c 210, c 211, c 212, c 213, c 214, c 215, c 216, c 217, c 218, c 219, c 220, c 221, c 222, c 223, c 224, c 225, c 226, c 227, c 228, c 229, c 230, c 231, c 232, c 233, c 234, c 235, c 236, c 237, c 238, c 239, c 240, c 241, c 242, c 243, c 244, c 245, c 246, c 247, c 248, c 249, c 250, c 251, c 252, c 253, c 254, c 255, c 256, c 257, c 258, c 259, c 260, c 261, c 262, c 263, c 264], []⟩ wr := by
  have _u : True := (fun _ _ _ => trivial) ht hqq hret
  conv => arg 2; whnf
  have HZ := hid (size_list t)
  have HML := hid (show t.size ≤ maxLen from max_le ht)
  have B0 := hid (show bt (t.data.toList.drop i) 0 = t[i].toNat by rw [bt_drop]; exact bt_at t i hlt)
  have HTL := hid (show i < t.data.toList.length by rw [HZ.out]; exact hlt)
  have hit := hrel.le
  have hA := hrel.size
  have HA := hid hrel.text
  have HRD := hid hrel.run
  have HF := hid hrel.fuel
  have HB := hid hrel.bel
  have HQ := hid hQ
  have HQQ := hid hqq
  clear hrel hQ hqq
  have hlt2 : i < t.size := hlt
  have giq : ((t[i].toNat : Int) == (t[a].toNat : Int)) = true := by rw [beq_iff_eq]; omega
  have HBQ := hid (show bt (t.data.toList.drop i) 0 = Q by rw [B0.out, ← HQ.out]; exact hiq)
  have HQB := hid (show Q < 256 by have := HQQ.out; omega)
  clear hiq
  have hql := qN_le Q (t.data.toList.drop i)
  rw [List.length_drop, HZ.out] at hql
  obtain ⟨hq5, hqs⟩ := hql
  have HNX := hid (tu_few (acc := acc) HQQ.out HF.out HTL.out HBQ.out h3)
  clear hret
  go_wp2_with fail
  go_loop [11] (fun v => ∃ n : Nat, 1 ≤ n ∧ n ≤ 5 ∧ i + n ≤ t.size ∧ v = .int .i64 n ∧ Hid (∀ j, j < n → bt (t.data.toList.drop i) j = Q)) (fun v => 5 - (intOf v).toNat)
  case atStart => exact ⟨1, by omega, by omega, by omega, rfl, fun j hj => by
    obtain rfl : j = 0 := by omega
    exact HBQ.out⟩
  case round =>
    obtain ⟨n, hn1, hn5, hns, rfl, HJ⟩ := hrel
    by_cases hin : i + n < t.size
    · have e1 : decide ((i : Int) + (n : Int) < (t.size : Int)) = true := decide_eq_true (by omega)
      have BN := hid (show bt (t.data.toList.drop i) n = t[i + n].toNat by rw [bt_drop]; exact bt_at t (i + n) hin)
      by_cases hqn : t[i + n].toNat = t[a].toNat
      · have e2 : ((t[i + n].toNat : Int) == (t[a].toNat : Int)) = true := by rw [beq_iff_eq]; omega
        have HBN := hid (show bt (t.data.toList.drop i) n = Q by rw [BN.out, ← HQ.out]; exact hqn)
        clear hqn
        by_cases h5 : n < 5
        · have HJ2 := hid (show ∀ j, j < n + 1 → bt (t.data.toList.drop i) j = Q from fun j hj => by
            by_cases e : j = n
            · rw [e]; exact HBN.out
            · exact HJ.out j (by omega))
          go_wp2_with fail
          go_round
          case rel => exact ⟨n + 1, by omega, by omega, by omega, by go_num, HJ2⟩
          case measure => simp [intOf]; omega
        · have HQN := hid (qN_eq Q (t.data.toList.drop i) n (by omega) HJ.out HQB.out (fun h => absurd h h5))
          have e5 : decide ((n : Int) < 5) = false := decide_eq_false (by omega)
          rw [HQN.out] at h3
          omega
      · have e2 : ((t[i + n].toNat : Int) == (t[a].toNat : Int)) = false := by rw [beq_eq_false_iff_ne]; omega
        have HQN := hid (qN_eq Q (t.data.toList.drop i) n (by omega) HJ.out HQB.out (fun _ => by rw [BN.out, ← HQ.out]; exact hqn))
        clear hqn
        rw [HQN.out] at h3
        have hn3 : n < 3 := h3
        have HN5 := hid (HNX.out)
        rw [HQN.out] at HN5
        obtain ⟨f', HN1, HN2⟩ := HN5.out
        have HN3 := hid (HN1.symm.trans HRD.out)
        have HN4 := hid HN2
        have HM := hid (show A ++ t.extract i (i + n) = mkS (acc ++ (t.data.toList.drop i).take n) by rw [ext_mkS, HA.out, mkS_app])
        have HMS := hid (show (t.extract i (i + n)).size = n by rw [ByteArray.size_extract]; omega)
        have hms' : (t.extract i (i + n)).size ≤ 1000000 := by rw [HMS.out]; omega
        clear HN1 HN2
        go_wp2_with fail
        refine ⟨⟨rfl, rfl, rfl, rfl, rfl, rfl, i + n, f', acc ++ (t.data.toList.drop i).take n, A ++ t.extract i (i + n), ?_, rfl, ⟨by omega, by rw [ByteArray.size_append, HMS.out]; omega, HM.out, HN3.out, HN4.out, HB.out⟩⟩, ?_⟩
        · exact val_int (by omega)
        · show t.size - (intOf (.int .i64 _)).toNat < t.size - i
          simp [intOf]; omega
    · have e1 : decide ((i : Int) + (n : Int) < (t.size : Int)) = false := decide_eq_false (by omega)
      have HQN := hid (qN_eq Q (t.data.toList.drop i) n (by omega) HJ.out HQB.out (fun _ => by rw [bt_drop, bt_none (by rw [HZ.out]; omega)]; have := HQB.out; omega))
      rw [HQN.out] at h3
      have hn3 : n < 3 := h3
      have HN5 := hid (HNX.out)
      rw [HQN.out] at HN5
      obtain ⟨f', HN1, HN2⟩ := HN5.out
      have HN3 := hid (HN1.symm.trans HRD.out)
      have HN4 := hid HN2
      have HM := hid (show A ++ t.extract i (i + n) = mkS (acc ++ (t.data.toList.drop i).take n) by rw [ext_mkS, HA.out, mkS_app])
      have HMS := hid (show (t.extract i (i + n)).size = n by rw [ByteArray.size_extract]; omega)
      have hms' : (t.extract i (i + n)).size ≤ 1000000 := by rw [HMS.out]; omega
      clear HN1 HN2
      go_wp2_with fail
      refine ⟨⟨rfl, rfl, rfl, rfl, rfl, rfl, i + n, f', acc ++ (t.data.toList.drop i).take n, A ++ t.extract i (i + n), ?_, rfl, ⟨by omega, by rw [ByteArray.size_append, HMS.out]; omega, HM.out, HN3.out, HN4.out, HB.out⟩⟩, ?_⟩
      · exact val_int (by omega)
      · show t.size - (intOf (.int .i64 _)).toNat < t.size - i
        simp [intOf]; omega
set_option maxRecDepth 1000000 in
set_option maxHeartbeats 4000000 in
theorem tr_three (t : ByteArray) (a : Nat) (ha : a < t.size) (Q : Nat) (R : List UInt8 × Nat × Int) (w : World) (i f : Nat) (acc : List UInt8) (A : ByteArray) (c : Nat → Value) (Q0 : Exit → Act → World → Prop) (wr : World) (ht : t.size ≤ 1000000)
    (hQ : t[a].toNat = Q) (hqq : Q = 34 ∨ Q = 39) (hrel : TRel true t Q R w i f acc A wr) (hret : Hid (TRet R w Q0)) (hlt : i < t.size) (hiq : t[i].toNat = t[a].toNat) (h3 : ¬ qN Q (t.data.toList.drop i) < 3) :
    Code.wp Tryz.prog ((Tryz.f32.body.bind firstLoop).getD .skip) (Exit.then (fun x w' => TI true t a ha Q R w x w' ∧ Tmu t x w' < t.size - i) Q0) ⟨#[.string t, .int .i64 (a : Int), c 2, c 3, c 4, c 5, c 6, .int .u8 (t[a].toNat : Int), .bool true, .int .i64 (i : Int), .string A, c 11, c 12, c 13, c 14, c 15, c 16, c 17, c 18, c 19, c 20, c 21, c 22, c 23, c 24, c 25, c 26, c 27, c 28, c 29, c 30, c 31, c 32, c 33, c 34, c 35, c 36, c 37, c 38, c 39, c 40, c 41, c 42, c 43, c 44, c 45, c 46, c 47, c 48, c 49, c 50, c 51, c 52, c 53, c 54, c 55, c 56, c 57, c 58, c 59, c 60, c 61, c 62, c 63, c 64, c 65, c 66, c 67, c 68, c 69, c 70, c 71, c 72, c 73, c 74, c 75, c 76, c 77, c 78, c 79, c 80, c 81, c 82, c 83, c 84, c 85, c 86, c 87, c 88, c 89, c 90, c 91, c 92, c 93, c 94, c 95, c 96, c 97, c 98, c 99, c 100, c 101, c 102, c 103, c 104, c 105, c 106, c 107, c 108, c 109, c 110, c 111, c 112, c 113, c 114, c 115, c 116, c 117, c 118, c 119, c 120, c 121, c 122, c 123, c 124, c 125, c 126, c 127, c 128, c 129, c 130, c 131, c 132, c 133, c 134, c 135, c 136, c 137, c 138, c 139, c 140, c 141, c 142, c 143, c 144, c 145, c 146, c 147, c 148, c 149, c 150, c 151, c 152, c 153, c 154, c 155, c 156, c 157, c 158, c 159, c 160, c 161, c 162, c 163, c 164, c 165, c 166, c 167, c 168, c 169, c 170, c 171, c 172, c 173, c 174, c 175, c 176, c 177, c 178, c 179, c 180, c 181, c 182, c 183, c 184, c 185, c 186, c 187, c 188, c 189, c 190, c 191, c 192, c 193, c 194, c 195, c 196, c 197, c 198, c 199, c 200, c 201, c 202, c 203, c 204, c 205, c 206, c 207, c 208, c 209, c 210, c 211, c 212, c 213, c 214, c 215, c 216, c 217, c 218, c 219, c 220, c 221, c 222, c 223, c 224, c 225, c 226, c 227, c 228, c 229, c 230, c 231, c 232, c 233, c 234, c 235, c 236, c 237, c 238, c 239, c 240, c 241, c 242, c 243, c 244, c 245, c 246, c 247, c 248, c 249, c 250, c 251, c 252, c 253, c 254, c 255, c 256, c 257, c 258, c 259, c 260, c 261, c 262, c 263, c 264], []⟩ wr := by
  have _u : True := (fun _ _ _ => trivial) ht hqq hret
  conv => arg 2; whnf
  have HZ := hid (size_list t)
  have HML := hid (show t.size ≤ maxLen from max_le ht)
  have B0 := hid (show bt (t.data.toList.drop i) 0 = t[i].toNat by rw [bt_drop]; exact bt_at t i hlt)
  have HTL := hid (show i < t.data.toList.length by rw [HZ.out]; exact hlt)
  have hit := hrel.le
  have hA := hrel.size
  have HA := hid hrel.text
  have HRD := hid hrel.run
  have HF := hid hrel.fuel
  have HB := hid hrel.bel
  have HQ := hid hQ
  have HQQ := hid hqq
  clear hrel hQ hqq
  have hlt2 : i < t.size := hlt
  have giq : ((t[i].toNat : Int) == (t[a].toNat : Int)) = true := by rw [beq_iff_eq]; omega
  have HBQ := hid (show bt (t.data.toList.drop i) 0 = Q by rw [B0.out, ← HQ.out]; exact hiq)
  have HQB := hid (show Q < 256 by have := HQQ.out; omega)
  clear hiq
  have hql := qN_le Q (t.data.toList.drop i)
  rw [List.length_drop, HZ.out] at hql
  obtain ⟨hq5, hqs⟩ := hql
  have HRR := hid (HRD.out.symm.trans (tu_end3 (acc := acc) HF.out HTL.out h3))
  go_wp2_with fail
  go_loop [11] (fun v => ∃ n : Nat, 1 ≤ n ∧ n ≤ 5 ∧ i + n ≤ t.size ∧ v = .int .i64 n ∧ Hid (∀ j, j < n → bt (t.data.toList.drop i) j = Q)) (fun v => 5 - (intOf v).toNat)
  case atStart => exact ⟨1, by omega, by omega, by omega, rfl, fun j hj => by
    obtain rfl : j = 0 := by omega
    exact HBQ.out⟩
  case round =>
    obtain ⟨n, hn1, hn5, hns, rfl, HJ⟩ := hrel
    by_cases hin : i + n < t.size
    · have e1 : decide ((i : Int) + (n : Int) < (t.size : Int)) = true := decide_eq_true (by omega)
      have BN := hid (show bt (t.data.toList.drop i) n = t[i + n].toNat by rw [bt_drop]; exact bt_at t (i + n) hin)
      by_cases hqn : t[i + n].toNat = t[a].toNat
      · have e2 : ((t[i + n].toNat : Int) == (t[a].toNat : Int)) = true := by rw [beq_iff_eq]; omega
        have HBN := hid (show bt (t.data.toList.drop i) n = Q by rw [BN.out, ← HQ.out]; exact hqn)
        clear hqn
        by_cases h5 : n < 5
        · have HJ2 := hid (show ∀ j, j < n + 1 → bt (t.data.toList.drop i) j = Q from fun j hj => by
            by_cases e : j = n
            · rw [e]; exact HBN.out
            · exact HJ.out j (by omega))
          go_wp2_with fail
          go_round
          case rel => exact ⟨n + 1, by omega, by omega, by omega, by go_num, HJ2⟩
          case measure => simp [intOf]; omega
        · have HQN := hid (qN_eq Q (t.data.toList.drop i) n (by omega) HJ.out HQB.out (fun h => absurd h h5))
          have e5 : decide ((n : Int) < 5) = false := decide_eq_false (by omega)
          rw [HQN.out] at h3
          have HRX := HRR
          rw [HQN.out] at HRX
          have e3 : ((i : Int) + (n : Int) - 3).toNat = i + n - 3 := by omega
          have HM := hid (show A ++ t.extract i (i + n - 3) = mkS (acc ++ (t.data.toList.drop i).take (n - 3)) by rw [show i + n - 3 = i + (n - 3) by omega, ext_mkS, HA.out, mkS_app])
          have hms' : (t.extract i (i + n - 3)).size ≤ 1000000 := by rw [ByteArray.size_extract]; omega
          go_wp2_with fail
          refine hret.out _ _ rfl ?_ HB.out
          rw [HRX.out]
          simp [results, Tryz.results32, go_sem]
          exact HM.out
      · have e2 : ((t[i + n].toNat : Int) == (t[a].toNat : Int)) = false := by rw [beq_eq_false_iff_ne]; omega
        have HQN := hid (qN_eq Q (t.data.toList.drop i) n (by omega) HJ.out HQB.out (fun _ => by rw [BN.out, ← HQ.out]; exact hqn))
        clear hqn
        rw [HQN.out] at h3
        have HRX := HRR
        rw [HQN.out] at HRX
        have e3 : ((i : Int) + (n : Int) - 3).toNat = i + n - 3 := by omega
        have HM := hid (show A ++ t.extract i (i + n - 3) = mkS (acc ++ (t.data.toList.drop i).take (n - 3)) by rw [show i + n - 3 = i + (n - 3) by omega, ext_mkS, HA.out, mkS_app])
        have hms' : (t.extract i (i + n - 3)).size ≤ 1000000 := by rw [ByteArray.size_extract]; omega
        go_wp2_with fail
        refine hret.out _ _ rfl ?_ HB.out
        rw [HRX.out]
        simp [results, Tryz.results32, go_sem]
        exact HM.out
    · have e1 : decide ((i : Int) + (n : Int) < (t.size : Int)) = false := decide_eq_false (by omega)
      have HQN := hid (qN_eq Q (t.data.toList.drop i) n (by omega) HJ.out HQB.out (fun _ => by rw [bt_drop, bt_none (by rw [HZ.out]; omega)]; have := HQB.out; omega))
      rw [HQN.out] at h3
      have HRX := HRR
      rw [HQN.out] at HRX
      have e3 : ((i : Int) + (n : Int) - 3).toNat = i + n - 3 := by omega
      have HM := hid (show A ++ t.extract i (i + n - 3) = mkS (acc ++ (t.data.toList.drop i).take (n - 3)) by rw [show i + n - 3 = i + (n - 3) by omega, ext_mkS, HA.out, mkS_app])
      have hms' : (t.extract i (i + n - 3)).size ≤ 1000000 := by rw [ByteArray.size_extract]; omega
      go_wp2_with fail
      refine hret.out _ _ rfl ?_ HB.out
      rw [HRX.out]
      simp [results, Tryz.results32, go_sem]
      exact HM.out
end Go.Proofs.YtlapefhnbbcmmaaGreatDoor
namespace Go.Proofs.YtlapefhnbbcmmaaGreatDoor
open Go.RowKit

set_option maxRecDepth 1000000 in
set_option maxHeartbeats 4000000 in
theorem tr_fold (many : Bool) (t : ByteArray) (a : Nat) (ha : a < t.size) (Q : Nat) (R : List UInt8 × Nat × Int) (w : World) (i f : Nat) (acc : List UInt8) (A : ByteArray) (c : Nat → Value) (Q0 : Exit → Act → World → Prop) (wr : World) (ht : t.size ≤ 1000000)
    (hQ : t[a].toNat = Q) (hqq : Q = 34 ∨ Q = 39) (hrel : TRel many t Q R w i f acc A wr) (hret : Hid (TRet R w Q0)) (hlt : i < t.size) (hesc : t[i].toNat = 92 ∧ t[a].toNat = 34) (hfd : 0 < fdM many (t.data.toList.drop i)) :
    Code.wp Tryz.prog ((Tryz.f32.body.bind firstLoop).getD .skip) (Exit.then (fun x w' => TI many t a ha Q R w x w' ∧ Tmu t x w' < t.size - i) Q0) ⟨#[.string t, .int .i64 (a : Int), c 2, c 3, c 4, c 5, c 6, .int .u8 (t[a].toNat : Int), .bool many, .int .i64 (i : Int), .string A, c 11, c 12, c 13, c 14, c 15, c 16, c 17, c 18, c 19, c 20, c 21, c 22, c 23, c 24, c 25, c 26, c 27, c 28, c 29, c 30, c 31, c 32, c 33, c 34, c 35, c 36, c 37, c 38, c 39, c 40, c 41, c 42, c 43, c 44, c 45, c 46, c 47, c 48, c 49, c 50, c 51, c 52, c 53, c 54, c 55, c 56, c 57, c 58, c 59, c 60, c 61, c 62, c 63, c 64, c 65, c 66, c 67, c 68, c 69, c 70, c 71, c 72, c 73, c 74, c 75, c 76, c 77, c 78, c 79, c 80, c 81, c 82, c 83, c 84, c 85, c 86, c 87, c 88, c 89, c 90, c 91, c 92, c 93, c 94, c 95, c 96, c 97, c 98, c 99, c 100, c 101, c 102, c 103, c 104, c 105, c 106, c 107, c 108, c 109, c 110, c 111, c 112, c 113, c 114, c 115, c 116, c 117, c 118, c 119, c 120, c 121, c 122, c 123, c 124, c 125, c 126, c 127, c 128, c 129, c 130, c 131, c 132, c 133, c 134, c 135, c 136, c 137, c 138, c 139, c 140, c 141, c 142, c 143, c 144, c 145, c 146, c 147, c 148, c 149, c 150, c 151, c 152, c 153, c 154, c 155, c 156, c 157, c 158, c 159, c 160, c 161, c 162, c 163, c 164, c 165, c 166, c 167, c 168, c 169, c 170, c 171, c 172, c 173, c 174, c 175, c 176, c 177, c 178, c 179, c 180, c 181, c 182, c 183, c 184, c 185, c 186, c 187, c 188, c 189, c 190, c 191, c 192, c 193, c 194, c 195, c 196, c 197, c 198, c 199, c 200, c 201, c 202, c 203, c 204, c 205, c 206, c 207, c 208, c 209, c 210, c 211, c 212, c 213, c 214, c 215, c 216, c 217, c 218, c 219, c 220, c 221, c 222, c 223, c 224, c 225, c 226, c 227, c 228, c 229, c 230, c 231, c 232, c 233, c 234, c 235, c 236, c 237, c 238, c 239, c 240, c 241, c 242, c 243, c 244, c 245, c 246, c 247, c 248, c 249, c 250, c 251, c 252, c 253, c 254, c 255, c 256, c 257, c 258, c 259, c 260, c 261, c 262, c 263, c 264], []⟩ wr := by
  have _u : True := (fun _ _ _ => trivial) ht hqq hret
  conv => arg 2; whnf
  have HZ := hid (size_list t)
  have HML := hid (show t.size ≤ maxLen from max_le ht)
  have B0 := hid (show bt (t.data.toList.drop i) 0 = t[i].toNat by rw [bt_drop]; exact bt_at t i hlt)
  have HTL := hid (show i < t.data.toList.length by rw [HZ.out]; exact hlt)
  have hit := hrel.le
  have hA := hrel.size
  have HA := hid hrel.text
  have HRD := hid hrel.run
  have HF := hid hrel.fuel
  have HB := hid hrel.bel
  have HQ := hid hQ
  have HQQ := hid hqq
  clear hrel hQ hqq
  have hlt2 : i < t.size := hlt
  have g92 : ((t[i].toNat : Int) == 92) = true := by rw [beq_iff_eq]; omega
  have g34 : ((t[a].toNat : Int) == 34) = true := by rw [beq_iff_eq]; omega
  have H34p := hid (show (t[a].toNat : Int) = 34 by omega)
  have H92p := hid (show (t[i].toNat : Int) = 92 by omega)
  have giq : ((t[i].toNat : Int) == (t[a].toNat : Int)) = false := by rw [beq_eq_false_iff_ne]; omega
  obtain rfl : Q = 34 := by rw [← HQ.out]; exact hesc.2
  have H92 := hid (show bt (t.data.toList.drop i) 0 = 92 by rw [B0.out]; exact hesc.1)
  have CF := hid (fun X => rfolded_any t i many X ht hlt)
  have hfl : i + fdM many (t.data.toList.drop i) ≤ t.size := by
    have h1 := fdN_le (t.data.toList.drop i)
    rw [List.length_drop, HZ.out] at h1
    unfold fdM; split <;> omega
  clear hesc
  obtain ⟨f', HN1, HN2⟩ := tu_fold (many := many) (acc := acc) HF.out HTL.out H92.out hfd
  have HN3 := hid (HN1.symm.trans HRD.out)
  have HN4 := hid HN2
  clear HN1 HN2 hret
  generalize fdM many (t.data.toList.drop i) = n at *
  go_wp2_with fail
  all_goals try (exact absurd H92p.out (by assumption))
  all_goals try (exact absurd H34p.out (by assumption))
  go_at_call 67
  refine (CF.out _).mono ?_
  rintro e w1 ⟨rfl, hw1⟩
  obtain rfl := hw1.symm
  go_wp2_with fail
  refine ⟨⟨rfl, rfl, rfl, rfl, rfl, rfl, i + n, f', acc, A, ?_, rfl, ⟨by omega, by omega, HA.out, HN3.out, HN4.out, HB.out⟩⟩, ?_⟩
  · exact val_int (by omega)
  · show t.size - (intOf (.int .i64 _)).toNat < t.size - i
    simp [intOf]; omega
set_option maxRecDepth 1000000 in
set_option maxHeartbeats 4000000 in
theorem tr_escbad (many : Bool) (t : ByteArray) (a : Nat) (ha : a < t.size) (Q : Nat) (R : List UInt8 × Nat × Int) (w : World) (i f : Nat) (acc : List UInt8) (A : ByteArray) (c : Nat → Value) (Q0 : Exit → Act → World → Prop) (wr : World) (ht : t.size ≤ 1000000)
    (hQ : t[a].toNat = Q) (hqq : Q = 34 ∨ Q = 39) (hrel : TRel many t Q R w i f acc A wr) (hret : Hid (TRet R w Q0)) (hlt : i < t.size) (hesc : t[i].toNat = 92 ∧ t[a].toNat = 34) (hfd : fdM many (t.data.toList.drop i) = 0) (hz : (escP true (t.data.toList.drop i)).2 = 0) :
    Code.wp Tryz.prog ((Tryz.f32.body.bind firstLoop).getD .skip) (Exit.then (fun x w' => TI many t a ha Q R w x w' ∧ Tmu t x w' < t.size - i) Q0) ⟨#[.string t, .int .i64 (a : Int), c 2, c 3, c 4, c 5, c 6, .int .u8 (t[a].toNat : Int), .bool many, .int .i64 (i : Int), .string A, c 11, c 12, c 13, c 14, c 15, c 16, c 17, c 18, c 19, c 20, c 21, c 22, c 23, c 24, c 25, c 26, c 27, c 28, c 29, c 30, c 31, c 32, c 33, c 34, c 35, c 36, c 37, c 38, c 39, c 40, c 41, c 42, c 43, c 44, c 45, c 46, c 47, c 48, c 49, c 50, c 51, c 52, c 53, c 54, c 55, c 56, c 57, c 58, c 59, c 60, c 61, c 62, c 63, c 64, c 65, c 66, c 67, c 68, c 69, c 70, c 71, c 72, c 73, c 74, c 75, c 76, c 77, c 78, c 79, c 80, c 81, c 82, c 83, c 84, c 85, c 86, c 87, c 88, c 89, c 90, c 91, c 92, c 93, c 94, c 95, c 96, c 97, c 98, c 99, c 100, c 101, c 102, c 103, c 104, c 105, c 106, c 107, c 108, c 109, c 110, c 111, c 112, c 113, c 114, c 115, c 116, c 117, c 118, c 119, c 120, c 121, c 122, c 123, c 124, c 125, c 126, c 127, c 128, c 129, c 130, c 131, c 132, c 133, c 134, c 135, c 136, c 137, c 138, c 139, c 140, c 141, c 142, c 143, c 144, c 145, c 146, c 147, c 148, c 149, c 150, c 151, c 152, c 153, c 154, c 155, c 156, c 157, c 158, c 159, c 160, c 161, c 162, c 163, c 164, c 165, c 166, c 167, c 168, c 169, c 170, c 171, c 172, c 173, c 174, c 175, c 176, c 177, c 178, c 179, c 180, c 181, c 182, c 183, c 184, c 185, c 186, c 187, c 188, c 189, c 190, c 191, c 192, c 193, c 194, c 195, c 196, c 197, c 198, c 199, c 200, c 201, c 202, c 203, c 204, c 205, c 206, c 207, c 208, c 209, c 210, c 211, c 212, c 213, c 214, c 215, c 216, c 217, c 218, c 219, c 220, c 221, c 222, c 223, c 224, c 225, c 226, c 227, c 228, c 229, c 230, c 231, c 232, c 233, c 234, c 235, c 236, c 237, c 238, c 239, c 240, c 241, c 242, c 243, c 244, c 245, c 246, c 247, c 248, c 249, c 250, c 251, c 252, c 253, c 254, c 255, c 256, c 257, c 258, c 259, c 260, c 261, c 262, c 263, c 264], []⟩ wr := by
  have _u : True := (fun _ _ _ => trivial) ht hqq hret
  conv => arg 2; whnf
  have HZ := hid (size_list t)
  have HML := hid (show t.size ≤ maxLen from max_le ht)
  have B0 := hid (show bt (t.data.toList.drop i) 0 = t[i].toNat by rw [bt_drop]; exact bt_at t i hlt)
  have HTL := hid (show i < t.data.toList.length by rw [HZ.out]; exact hlt)
  have hit := hrel.le
  have hA := hrel.size
  have HA := hid hrel.text
  have HRD := hid hrel.run
  have HF := hid hrel.fuel
  have HB := hid hrel.bel
  have HQ := hid hQ
  have HQQ := hid hqq
  clear hrel hQ hqq
  have hlt2 : i < t.size := hlt
  have g92 : ((t[i].toNat : Int) == 92) = true := by rw [beq_iff_eq]; omega
  have g34 : ((t[a].toNat : Int) == 34) = true := by rw [beq_iff_eq]; omega
  have H34p := hid (show (t[a].toNat : Int) = 34 by omega)
  have H92p := hid (show (t[i].toNat : Int) = 92 by omega)
  have giq : ((t[i].toNat : Int) == (t[a].toNat : Int)) = false := by rw [beq_eq_false_iff_ne]; omega
  obtain rfl : Q = 34 := by rw [← HQ.out]; exact hesc.2
  have H92 := hid (show bt (t.data.toList.drop i) 0 = 92 by rw [B0.out]; exact hesc.1)
  have CF := hid (fun X => rfolded_any t i many X ht hlt)
  have hfl : i + fdM many (t.data.toList.drop i) ≤ t.size := by
    have h1 := fdN_le (t.data.toList.drop i)
    rw [List.length_drop, HZ.out] at h1
    unfold fdM; split <;> omega
  clear hesc
  have CE := hid (fun X => rescape_any t i true X ht hlt)
  rw [hfd] at CF
  have HRR := hid (HRD.out.symm.trans (tu_escbad (many := many) (acc := acc) HF.out HTL.out H92.out hfd hz))
  rw [hz] at CE
  clear hz hfl hfd
  go_wp2_with fail
  all_goals try (exact absurd H92p.out (by assumption))
  all_goals try (exact absurd H34p.out (by assumption))
  go_at_call 67
  refine (CF.out _).mono ?_
  rintro e w1 ⟨rfl, hw1⟩
  obtain rfl := hw1.symm
  go_wp2_with fail
  go_at_call 68
  refine (CE.out _).mono ?_
  rintro e w2 ⟨rfl, hb2⟩
  go_wp2_with fail
  refine hret.out _ _ rfl ?_ (eonto HB.out hb2)
  rw [HRR.out]
  simp [results, Tryz.results32, go_sem, mkS]
set_option maxRecDepth 1000000 in
set_option maxHeartbeats 4000000 in
theorem tr_esc (many : Bool) (t : ByteArray) (a : Nat) (ha : a < t.size) (Q : Nat) (R : List UInt8 × Nat × Int) (w : World) (i f : Nat) (acc : List UInt8) (A : ByteArray) (c : Nat → Value) (Q0 : Exit → Act → World → Prop) (wr : World) (ht : t.size ≤ 1000000)
    (hQ : t[a].toNat = Q) (hqq : Q = 34 ∨ Q = 39) (hrel : TRel many t Q R w i f acc A wr) (hret : Hid (TRet R w Q0)) (hlt : i < t.size) (hesc : t[i].toNat = 92 ∧ t[a].toNat = 34) (hfd : fdM many (t.data.toList.drop i) = 0) (hz : 0 < (escP true (t.data.toList.drop i)).2) :
    Code.wp Tryz.prog ((Tryz.f32.body.bind firstLoop).getD .skip) (Exit.then (fun x w' => TI many t a ha Q R w x w' ∧ Tmu t x w' < t.size - i) Q0) ⟨#[.string t, .int .i64 (a : Int), c 2, c 3, c 4, c 5, c 6, .int .u8 (t[a].toNat : Int), .bool many, .int .i64 (i : Int), .string A, c 11, c 12, c 13, c 14, c 15, c 16, c 17, c 18, c 19, c 20, c 21, c 22, c 23, c 24, c 25, c 26, c 27, c 28, c 29, c 30, c 31, c 32, c 33, c 34, c 35, c 36, c 37, c 38, c 39, c 40, c 41, c 42, c 43, c 44, c 45, c 46, c 47, c 48, c 49, c 50, c 51, c 52, c 53, c 54, c 55, c 56, c 57, c 58, c 59, c 60, c 61, c 62, c 63, c 64, c 65, c 66, c 67, c 68, c 69, c 70, c 71, c 72, c 73, c 74, c 75, c 76, c 77, c 78, c 79, c 80, c 81, c 82, c 83, c 84, c 85, c 86, c 87, c 88, c 89, c 90, c 91, c 92, c 93, c 94, c 95, c 96, c 97, c 98, c 99, c 100, c 101, c 102, c 103, c 104, c 105, c 106, c 107, c 108, c 109, c 110, c 111, c 112, c 113, c 114, c 115, c 116, c 117, c 118, c 119, c 120, c 121, c 122, c 123, c 124, c 125, c 126, c 127, c 128, c 129, c 130, c 131, c 132, c 133, c 134, c 135, c 136, c 137, c 138, c 139, c 140, c 141, c 142, c 143, c 144, c 145, c 146, c 147, c 148, c 149, c 150, c 151, c 152, c 153, c 154, c 155, c 156, c 157, c 158, c 159, c 160, c 161, c 162, c 163, c 164, c 165, c 166, c 167, c 168, c 169, c 170, c 171, c 172, c 173, c 174, c 175, c 176, c 177, c 178, c 179, c 180, c 181, c 182, c 183, c 184, c 185, c 186, c 187, c 188, c 189, c 190, c 191, c 192, c 193, c 194, c 195, c 196, c 197, c 198, c 199, c 200, c 201, c 202, c 203, c 204, c 205, c 206, c 207, c 208, c 209, c 210, c 211, c 212, c 213, c 214, c 215, c 216, c 217, c 218, c 219, c 220, c 221, c 222, c 223, c 224, c 225, c 226, c 227, c 228, c 229, c 230, c 231, c 232, c 233, c 234, c 235, c 236, c 237, c 238, c 239, c 240, c 241, c 242, c 243, c 244, c 245, c 246, c 247, c 248, c 249, c 250, c 251, c 252, c 253, c 254, c 255, c 256, c 257, c 258, c 259, c 260, c 261, c 262, c 263, c 264], []⟩ wr := by
  have _u : True := (fun _ _ _ => trivial) ht hqq hret
  conv => arg 2; whnf
  have HZ := hid (size_list t)
  have HML := hid (show t.size ≤ maxLen from max_le ht)
  have B0 := hid (show bt (t.data.toList.drop i) 0 = t[i].toNat by rw [bt_drop]; exact bt_at t i hlt)
  have HTL := hid (show i < t.data.toList.length by rw [HZ.out]; exact hlt)
  have hit := hrel.le
  have hA := hrel.size
  have HA := hid hrel.text
  have HRD := hid hrel.run
  have HF := hid hrel.fuel
  have HB := hid hrel.bel
  have HQ := hid hQ
  have HQQ := hid hqq
  clear hrel hQ hqq
  have hlt2 : i < t.size := hlt
  have g92 : ((t[i].toNat : Int) == 92) = true := by rw [beq_iff_eq]; omega
  have g34 : ((t[a].toNat : Int) == 34) = true := by rw [beq_iff_eq]; omega
  have H34p := hid (show (t[a].toNat : Int) = 34 by omega)
  have H92p := hid (show (t[i].toNat : Int) = 92 by omega)
  have giq : ((t[i].toNat : Int) == (t[a].toNat : Int)) = false := by rw [beq_eq_false_iff_ne]; omega
  obtain rfl : Q = 34 := by rw [← HQ.out]; exact hesc.2
  have H92 := hid (show bt (t.data.toList.drop i) 0 = 92 by rw [B0.out]; exact hesc.1)
  have CF := hid (fun X => rfolded_any t i many X ht hlt)
  have hfl : i + fdM many (t.data.toList.drop i) ≤ t.size := by
    have h1 := fdN_le (t.data.toList.drop i)
    rw [List.length_drop, HZ.out] at h1
    unfold fdM; split <;> omega
  clear hesc
  have CE := hid (fun X => rescape_any t i true X ht hlt)
  rw [hfd] at CF
  obtain ⟨f', HN1, HN2⟩ := tu_esc (many := many) (acc := acc) HF.out HTL.out H92.out hfd hz
  have hfit := fits_esc true (t.data.toList.drop i)
  rw [List.length_drop, HZ.out] at hfit
  obtain ⟨x1, hx1⟩ : ∃ x, (escP true (t.data.toList.drop i)).1 = x := ⟨_, rfl⟩
  obtain ⟨x2, hx2⟩ : ∃ x, (escP true (t.data.toList.drop i)).2 = x := ⟨_, rfl⟩
  rw [hx1, hx2] at CE HN1 hfit
  rw [hx2] at HN2 hz
  have HN3 := hid (HN1.symm.trans HRD.out)
  have HN4 := hid HN2
  obtain ⟨fp1, fp2⟩ := hfit
  have hp0 : ((x2 : Int) == 0) = false := by rw [beq_eq_false_iff_ne]; omega
  have hp0p : ¬ (x2 : Int) = 0 := by omega
  obtain ⟨m, hm⟩ : ∃ m, mkS x1 = m := ⟨_, rfl⟩
  have hms : m.size ≤ x2 := by rw [← hm, mkS_size]; exact fp2
  have HM2 := hid (show A ++ m = mkS (acc ++ x1) by rw [← hm, HA.out, mkS_app])
  rw [hm] at CE
  clear HN1 HN2 hm hx1 hx2 hfd hret hfl
  go_wp2_with fail
  all_goals try (exact absurd H92p.out (by assumption))
  all_goals try (exact absurd H34p.out (by assumption))
  go_at_call 67
  refine (CF.out _).mono ?_
  rintro e w1 ⟨rfl, hw1⟩
  obtain rfl := hw1.symm
  go_wp2_with fail
  go_at_call 68
  refine (CE.out _).mono ?_
  rintro e w2 ⟨rfl, hb2⟩
  go_wp2_with fail
  refine ⟨⟨rfl, rfl, rfl, rfl, rfl, rfl, i + x2, f', acc ++ x1, A ++ m, ?_, rfl, ⟨by omega, by rw [ByteArray.size_append]; omega, HM2.out, HN3.out, HN4.out, eonto HB.out hb2⟩⟩, ?_⟩
  · exact val_int (by omega)
  · show t.size - (intOf (.int .i64 _)).toNat < t.size - i
    simp [intOf]; omega
end Go.Proofs.YtlapefhnbbcmmaaGreatDoor
namespace Go.Proofs.YtlapefhnbbcmmaaGreatDoor
open Go.RowKit

set_option maxRecDepth 1000000 in
set_option maxHeartbeats 4000000 in
theorem tr_bad (many : Bool) (t : ByteArray) (a : Nat) (ha : a < t.size) (Q : Nat) (R : List UInt8 × Nat × Int) (w : World) (i f : Nat) (acc : List UInt8) (A : ByteArray) (c : Nat → Value) (Q0 : Exit → Act → World → Prop) (wr : World) (ht : t.size ≤ 1000000)
    (hQ : t[a].toNat = Q) (hqq : Q = 34 ∨ Q = 39) (hrel : TRel many t Q R w i f acc A wr) (hret : Hid (TRet R w Q0)) (hlt : i < t.size) (hiq : ¬ t[i].toNat = t[a].toNat) (hesc : ¬ (t[i].toNat = 92 ∧ t[a].toNat = 34)) (hbad : badB many (t.data.toList.drop i)) :
    Code.wp Tryz.prog ((Tryz.f32.body.bind firstLoop).getD .skip) (Exit.then (fun x w' => TI many t a ha Q R w x w' ∧ Tmu t x w' < t.size - i) Q0) ⟨#[.string t, .int .i64 (a : Int), c 2, c 3, c 4, c 5, c 6, .int .u8 (t[a].toNat : Int), .bool many, .int .i64 (i : Int), .string A, c 11, c 12, c 13, c 14, c 15, c 16, c 17, c 18, c 19, c 20, c 21, c 22, c 23, c 24, c 25, c 26, c 27, c 28, c 29, c 30, c 31, c 32, c 33, c 34, c 35, c 36, c 37, c 38, c 39, c 40, c 41, c 42, c 43, c 44, c 45, c 46, c 47, c 48, c 49, c 50, c 51, c 52, c 53, c 54, c 55, c 56, c 57, c 58, c 59, c 60, c 61, c 62, c 63, c 64, c 65, c 66, c 67, c 68, c 69, c 70, c 71, c 72, c 73, c 74, c 75, c 76, c 77, c 78, c 79, c 80, c 81, c 82, c 83, c 84, c 85, c 86, c 87, c 88, c 89, c 90, c 91, c 92, c 93, c 94, c 95, c 96, c 97, c 98, c 99, c 100, c 101, c 102, c 103, c 104, c 105, c 106, c 107, c 108, c 109, c 110, c 111, c 112, c 113, c 114, c 115, c 116, c 117, c 118, c 119, c 120, c 121, c 122, c 123, c 124, c 125, c 126, c 127, c 128, c 129, c 130, c 131, c 132, c 133, c 134, c 135, c 136, c 137, c 138, c 139, c 140, c 141, c 142, c 143, c 144, c 145, c 146, c 147, c 148, c 149, c 150, c 151, c 152, c 153, c 154, c 155, c 156, c 157, c 158, c 159, c 160, c 161, c 162, c 163, c 164, c 165, c 166, c 167, c 168, c 169, c 170, c 171, c 172, c 173, c 174, c 175, c 176, c 177, c 178, c 179, c 180, c 181, c 182, c 183, c 184, c 185, c 186, c 187, c 188, c 189, c 190, c 191, c 192, c 193, c 194, c 195, c 196, c 197, c 198, c 199, c 200, c 201, c 202, c 203, c 204, c 205, c 206, c 207, c 208, c 209, c 210, c 211, c 212, c 213, c 214, c 215, c 216, c 217, c 218, c 219, c 220, c 221, c 222, c 223, c 224, c 225, c 226, c 227, c 228, c 229, c 230, c 231, c 232, c 233, c 234, c 235, c 236, c 237, c 238, c 239, c 240, c 241, c 242, c 243, c 244, c 245, c 246, c 247, c 248, c 249, c 250, c 251, c 252, c 253, c 254, c 255, c 256, c 257, c 258, c 259, c 260, c 261, c 262, c 263, c 264], []⟩ wr := by
  have _u : True := (fun _ _ _ => trivial) ht hqq hret
  conv => arg 2; whnf
  have HZ := hid (size_list t)
  have HML := hid (show t.size ≤ maxLen from max_le ht)
  have B0 := hid (show bt (t.data.toList.drop i) 0 = t[i].toNat by rw [bt_drop]; exact bt_at t i hlt)
  have HTL := hid (show i < t.data.toList.length by rw [HZ.out]; exact hlt)
  have hit := hrel.le
  have hA := hrel.size
  have HA := hid hrel.text
  have HRD := hid hrel.run
  have HF := hid hrel.fuel
  have HB := hid hrel.bel
  have HQ := hid hQ
  have HQQ := hid hqq
  clear hrel hQ hqq
  have hlt2 : i < t.size := hlt
  have HNQ := hid (show bt (t.data.toList.drop i) 0 ≠ Q by rw [B0.out, ← HQ.out]; exact hiq)
  have giq : ((t[i].toNat : Int) == (t[a].toNat : Int)) = false := by rw [beq_eq_false_iff_ne]; omega
  have giqp : ¬ (t[i].toNat : Int) = (t[a].toNat : Int) := by omega
  have HB92 := hid (show ¬ (bt (t.data.toList.drop i) 0 = 92 ∧ Q = 34) by rw [B0.out, ← HQ.out]; exact hesc)
  have CT := hid (fun X => rtake_at t i X HML.out)
  have hnl : i + tkN (t.data.toList.drop i) ≤ t.size := by have := tkN_le (t.data.toList.drop i); rw [List.length_drop, HZ.out] at this; omega
  have B1 : Hid (∀ h : i + 1 < t.size, bt (t.data.toList.drop i) 1 = t[i + 1].toNat) := fun h => by rw [bt_drop]; exact bt_at t (i + 1) h
  have N1 : Hid (t.size ≤ i + 1 → bt (t.data.toList.drop i) 1 = 256) := fun h => by rw [bt_drop]; exact bt_none (by rw [HZ.out]; exact h)
  obtain ⟨ln, hln⟩ : ∃ ln, lineB many (t.data.toList.drop i) = ln := ⟨_, rfl⟩
  have HLN := hid hln
  have HES := hid hesc
  clear hiq hln hesc
  go_upto_region 24 with fail
  go_cut [168] from 101 to 262 (fun v wx => v = .bool false ∧ wx = wr)
  case first =>
    as_aux_lemma =>
      have hesc := HES.out
      have h' : (((t[i].toNat : Int) == 92) = false ∧ ¬ (t[i].toNat : Int) = 92) ∨ (((t[i].toNat : Int) == 92) = true ∧ (t[i].toNat : Int) = 92 ∧ ((t[a].toNat : Int) == 34) = false ∧ ¬ (t[a].toNat : Int) = 34) := by simp only [beq_iff_eq, beq_eq_false_iff_ne]; omega
      clear hesc
      rcases h' with ⟨f1, f1p⟩ | ⟨f1, f1p, f2, f2p⟩
      all_goals
        go_wp2_with fail
        go_meet
        exact ⟨rfl, rfl⟩
  case rest =>
  obtain ⟨rfl, hwc⟩ := hcut
  obtain rfl := hwc.symm
  go_wp2_with fail
  go_at_call 69
  refine (CT.out _).mono ?_
  rintro e w1 ⟨rfl, hb1⟩
  have HB01 := hid (eonto HB.out hb1)
  clear hb1 CT
  go_upto_region 34 with fail
  go_cut [16] from 101 to 262 (fun v wx => v = .bool ln ∧ wx = w1)
  case first =>
    as_aux_lemma =>
      have hl := HLN.out
      unfold lineB lnE at hl
      cases many with
      | false =>
        obtain rfl : ln = false := by rw [← hl]; rfl
        go_wp2_with fail
        go_meet
        exact ⟨rfl, rfl⟩
      | true =>
        rw [B0.out, Bool.true_and] at hl
        by_cases h10 : t[i].toNat = 10
        · obtain rfl : ln = true := by rw [← hl]; simp [h10]
          have f1 : ((t[i].toNat : Int) == 10) = true := by rw [beq_iff_eq]; omega
          have f1p : (t[i].toNat : Int) = 10 := by omega
          clear h10 hl
          go_wp2_with fail
          go_meet
          exact ⟨rfl, rfl⟩
        · have f1 : ((t[i].toNat : Int) == 10) = false := by rw [beq_eq_false_iff_ne]; omega
          have f1p : ¬ (t[i].toNat : Int) = 10 := by omega
          by_cases h13 : t[i].toNat = 13
          · have f2 : ((t[i].toNat : Int) == 13) = true := by rw [beq_iff_eq]; omega
            have f2p : (t[i].toNat : Int) = 13 := by omega
            by_cases hn : i + 1 < t.size
            · have f3 : decide ((i : Int) + 1 < (t.size : Int)) = true := decide_eq_true (by omega)
              have f3p : (i : Int) + 1 < (t.size : Int) := by omega
              rw [B1.out hn] at hl
              by_cases h14 : t[i + 1].toNat = 10
              · have f4 : ((t[i + 1].toNat : Int) == 10) = true := by rw [beq_iff_eq]; omega
                have f4p : (t[i + 1].toNat : Int) = 10 := by omega
                obtain rfl : ln = true := by rw [← hl]; simp [h13, h14]
                clear h10 hl h13 h14
                go_wp2_with fail
                go_meet
                exact ⟨rfl, rfl⟩
              · have f4 : ((t[i + 1].toNat : Int) == 10) = false := by rw [beq_eq_false_iff_ne]; omega
                have f4p : ¬ (t[i + 1].toNat : Int) = 10 := by omega
                obtain rfl : ln = false := by rw [← hl]; simp [h10, h14]
                clear h10 hl h13 h14
                go_wp2_with fail
                go_meet
                exact ⟨rfl, rfl⟩
            · have f3 : decide ((i : Int) + 1 < (t.size : Int)) = false := decide_eq_false (by omega)
              have f3p : ¬ (i : Int) + 1 < (t.size : Int) := by omega
              obtain rfl : ln = false := by rw [← hl, N1.out (by omega)]; simp [h10]
              clear h10 hl h13
              go_wp2_with fail
              go_meet
              exact ⟨rfl, rfl⟩
          · have f2 : ((t[i].toNat : Int) == 13) = false := by rw [beq_eq_false_iff_ne]; omega
            have f2p : ¬ (t[i].toNat : Int) = 13 := by omega
            obtain rfl : ln = false := by rw [← hl]; simp [h10, h13]
            clear h10 hl h13
            go_wp2_with fail
            go_meet
            exact ⟨rfl, rfl⟩
  case rest =>
  obtain ⟨rfl, hwc⟩ := hcut
  obtain rfl := hwc.symm
  obtain ⟨bd, hbd⟩ : ∃ bd : Bool, (decide (tkN (t.data.toList.drop i) = 0) || ((decide (t[i].toNat < 32) || decide (t[i].toNat = 127)) && !decide (t[i].toNat = 9) && !ln)) = bd := ⟨_, rfl⟩
  have HBD := hid hbd
  have HBB := hid (show badB many (t.data.toList.drop i) ↔ bd = true by
    rw [← hbd]
    unfold badB
    rw [HLN.out, B0.out]
    simp [Bool.or_eq_true, Bool.and_eq_true, and_assoc])
  clear hbd
  go_upto_region 35 with fail
  go_cut [250] from 101 to 262 (fun v wx => v = .bool bd ∧ wx = w1)
  case first =>
    as_aux_lemma =>
      have hbd := HBD.out
      by_cases z0 : tkN (t.data.toList.drop i) = 0
      · have f0 : (((tkN (t.data.toList.drop i) : Nat) : Int) == 0) = true := by rw [z0]; rfl
        obtain rfl : bd = true := by rw [← hbd, decide_eq_true z0]; rfl
        clear hbd z0
        go_wp2_with fail
        go_meet
        exact ⟨rfl, rfl⟩
      · have f0 : (((tkN (t.data.toList.drop i) : Nat) : Int) == 0) = false := by rw [beq_eq_false_iff_ne]; omega
        rw [decide_eq_false z0, Bool.false_or] at hbd
        generalize tkN (t.data.toList.drop i) = n at *
        by_cases z1 : t[i].toNat < 32
        · have f1 : decide ((t[i].toNat : Int) < 32) = true := decide_eq_true (by omega)
          have f1p : (t[i].toNat : Int) < 32 := by omega
          rw [decide_eq_true z1, Bool.true_or, Bool.true_and] at hbd
          by_cases z3 : t[i].toNat = 9
          · have f3 : ((t[i].toNat : Int) != 9) = false := by rw [bne_eq_false_iff_eq]; omega
            have f3p : (t[i].toNat : Int) = 9 := by omega
            obtain rfl : bd = false := by rw [← hbd, decide_eq_true z3]; rfl
            clear hbd z0 z1 z3
            go_wp2_with fail
            go_meet
            exact ⟨rfl, rfl⟩
          · have f3 : ((t[i].toNat : Int) != 9) = true := by rw [bne_iff_ne]; omega
            have f3p : ¬ (t[i].toNat : Int) = 9 := by omega
            obtain rfl : bd = !ln := by rw [← hbd, decide_eq_false z3]; rfl
            clear hbd z0 z1 z3
            cases ln
            all_goals
              go_wp2_with fail
              go_meet
              exact ⟨rfl, rfl⟩
        · have f1 : decide ((t[i].toNat : Int) < 32) = false := decide_eq_false (by omega)
          have f1p : ¬ (t[i].toNat : Int) < 32 := by omega
          rw [decide_eq_false z1, Bool.false_or] at hbd
          by_cases z2 : t[i].toNat = 127
          · have f2 : ((t[i].toNat : Int) == 127) = true := by rw [beq_iff_eq]; omega
            have f2p : (t[i].toNat : Int) = 127 := by omega
            have f3 : ((t[i].toNat : Int) != 9) = true := by rw [bne_iff_ne]; omega
            have f3p : ¬ (t[i].toNat : Int) = 9 := by omega
            obtain rfl : bd = !ln := by rw [← hbd, decide_eq_true z2, decide_eq_false (by omega)]; rfl
            clear hbd z0 z1 z2
            cases ln
            all_goals
              go_wp2_with fail
              go_meet
              exact ⟨rfl, rfl⟩
          · have f2 : ((t[i].toNat : Int) == 127) = false := by rw [beq_eq_false_iff_ne]; omega
            have f2p : ¬ (t[i].toNat : Int) = 127 := by omega
            obtain rfl : bd = false := by rw [← hbd, decide_eq_false z2]; rfl
            clear hbd z0 z1 z2
            go_wp2_with fail
            go_meet
            exact ⟨rfl, rfl⟩
  case rest =>
  obtain ⟨rfl, hwc⟩ := hcut
  obtain rfl := hwc.symm
  obtain rfl : bd = true := HBB.out.1 hbad
  have HRR := hid (HRD.out.symm.trans (tu_bad (many := many) (acc := acc) HF.out HTL.out HNQ.out HB92.out hbad))
  generalize tkN (t.data.toList.drop i) = n at *
  go_wp2_with fail
  refine hret.out _ _ rfl ?_ HB01.out
  rw [HRR.out]
  simp [results, Tryz.results32, go_sem, mkS]
end Go.Proofs.YtlapefhnbbcmmaaGreatDoor
namespace Go.Proofs.YtlapefhnbbcmmaaGreatDoor
open Go.RowKit

set_option maxRecDepth 1000000 in
set_option maxHeartbeats 4000000 in
theorem tr_plain (many : Bool) (t : ByteArray) (a : Nat) (ha : a < t.size) (Q : Nat) (R : List UInt8 × Nat × Int) (w : World) (i f : Nat) (acc : List UInt8) (A : ByteArray) (c : Nat → Value) (Q0 : Exit → Act → World → Prop) (wr : World) (ht : t.size ≤ 1000000)
    (hQ : t[a].toNat = Q) (hqq : Q = 34 ∨ Q = 39) (hrel : TRel many t Q R w i f acc A wr) (hret : Hid (TRet R w Q0)) (hlt : i < t.size) (hiq : ¬ t[i].toNat = t[a].toNat) (hesc : ¬ (t[i].toNat = 92 ∧ t[a].toNat = 34)) (hbad : ¬ badB many (t.data.toList.drop i)) :
    Code.wp Tryz.prog ((Tryz.f32.body.bind firstLoop).getD .skip) (Exit.then (fun x w' => TI many t a ha Q R w x w' ∧ Tmu t x w' < t.size - i) Q0) ⟨#[.string t, .int .i64 (a : Int), c 2, c 3, c 4, c 5, c 6, .int .u8 (t[a].toNat : Int), .bool many, .int .i64 (i : Int), .string A, c 11, c 12, c 13, c 14, c 15, c 16, c 17, c 18, c 19, c 20, c 21, c 22, c 23, c 24, c 25, c 26, c 27, c 28, c 29, c 30, c 31, c 32, c 33, c 34, c 35, c 36, c 37, c 38, c 39, c 40, c 41, c 42, c 43, c 44, c 45, c 46, c 47, c 48, c 49, c 50, c 51, c 52, c 53, c 54, c 55, c 56, c 57, c 58, c 59, c 60, c 61, c 62, c 63, c 64, c 65, c 66, c 67, c 68, c 69, c 70, c 71, c 72, c 73, c 74, c 75, c 76, c 77, c 78, c 79, c 80, c 81, c 82, c 83, c 84, c 85, c 86, c 87, c 88, c 89, c 90, c 91, c 92, c 93, c 94, c 95, c 96, c 97, c 98, c 99, c 100, c 101, c 102, c 103, c 104, c 105, c 106, c 107, c 108, c 109, c 110, c 111, c 112, c 113, c 114, c 115, c 116, c 117, c 118, c 119, c 120, c 121, c 122, c 123, c 124, c 125, c 126, c 127, c 128, c 129, c 130, c 131, c 132, c 133, c 134, c 135, c 136, c 137, c 138, c 139, c 140, c 141, c 142, c 143, c 144, c 145, c 146, c 147, c 148, c 149, c 150, c 151, c 152, c 153, c 154, c 155, c 156, c 157, c 158, c 159, c 160, c 161, c 162, c 163, c 164, c 165, c 166, c 167, c 168, c 169, c 170, c 171, c 172, c 173, c 174, c 175, c 176, c 177, c 178, c 179, c 180, c 181, c 182, c 183, c 184, c 185, c 186, c 187, c 188, c 189, c 190, c 191, c 192, c 193, c 194, c 195, c 196, c 197, c 198, c 199, c 200, c 201, c 202, c 203, c 204, c 205, c 206, c 207, c 208, c 209, c 210, c 211, c 212, c 213, c 214, c 215, c 216, c 217, c 218, c 219, c 220, c 221, c 222, c 223, c 224, c 225, c 226, c 227, c 228, c 229, c 230, c 231, c 232, c 233, c 234, c 235, c 236, c 237, c 238, c 239, c 240, c 241, c 242, c 243, c 244, c 245, c 246, c 247, c 248, c 249, c 250, c 251, c 252, c 253, c 254, c 255, c 256, c 257, c 258, c 259, c 260, c 261, c 262, c 263, c 264], []⟩ wr := by
  have _u : True := (fun _ _ _ => trivial) ht hqq hret
  conv => arg 2; whnf
  have HZ := hid (size_list t)
  have HML := hid (show t.size ≤ maxLen from max_le ht)
  have B0 := hid (show bt (t.data.toList.drop i) 0 = t[i].toNat by rw [bt_drop]; exact bt_at t i hlt)
  have HTL := hid (show i < t.data.toList.length by rw [HZ.out]; exact hlt)
  have hit := hrel.le
  have hA := hrel.size
  have HA := hid hrel.text
  have HRD := hid hrel.run
  have HF := hid hrel.fuel
  have HB := hid hrel.bel
  have HQ := hid hQ
  have HQQ := hid hqq
  clear hrel hQ hqq
  have hlt2 : i < t.size := hlt
  have HNQ := hid (show bt (t.data.toList.drop i) 0 ≠ Q by rw [B0.out, ← HQ.out]; exact hiq)
  have giq : ((t[i].toNat : Int) == (t[a].toNat : Int)) = false := by rw [beq_eq_false_iff_ne]; omega
  have giqp : ¬ (t[i].toNat : Int) = (t[a].toNat : Int) := by omega
  have HB92 := hid (show ¬ (bt (t.data.toList.drop i) 0 = 92 ∧ Q = 34) by rw [B0.out, ← HQ.out]; exact hesc)
  have CT := hid (fun X => rtake_at t i X HML.out)
  have hnl : i + tkN (t.data.toList.drop i) ≤ t.size := by have := tkN_le (t.data.toList.drop i); rw [List.length_drop, HZ.out] at this; omega
  have B1 : Hid (∀ h : i + 1 < t.size, bt (t.data.toList.drop i) 1 = t[i + 1].toNat) := fun h => by rw [bt_drop]; exact bt_at t (i + 1) h
  have N1 : Hid (t.size ≤ i + 1 → bt (t.data.toList.drop i) 1 = 256) := fun h => by rw [bt_drop]; exact bt_none (by rw [HZ.out]; exact h)
  obtain ⟨ln, hln⟩ : ∃ ln, lineB many (t.data.toList.drop i) = ln := ⟨_, rfl⟩
  have HLN := hid hln
  have HES := hid hesc
  clear hiq hln hesc
  go_upto_region 24 with fail
  go_cut [168] from 101 to 262 (fun v wx => v = .bool false ∧ wx = wr)
  case first =>
    as_aux_lemma =>
      have hesc := HES.out
      have h' : (((t[i].toNat : Int) == 92) = false ∧ ¬ (t[i].toNat : Int) = 92) ∨ (((t[i].toNat : Int) == 92) = true ∧ (t[i].toNat : Int) = 92 ∧ ((t[a].toNat : Int) == 34) = false ∧ ¬ (t[a].toNat : Int) = 34) := by simp only [beq_iff_eq, beq_eq_false_iff_ne]; omega
      clear hesc
      rcases h' with ⟨f1, f1p⟩ | ⟨f1, f1p, f2, f2p⟩
      all_goals
        go_wp2_with fail
        go_meet
        exact ⟨rfl, rfl⟩
  case rest =>
  obtain ⟨rfl, hwc⟩ := hcut
  obtain rfl := hwc.symm
  go_wp2_with fail
  go_at_call 69
  refine (CT.out _).mono ?_
  rintro e w1 ⟨rfl, hb1⟩
  have HB01 := hid (eonto HB.out hb1)
  clear hb1 CT
  go_upto_region 34 with fail
  go_cut [16] from 101 to 262 (fun v wx => v = .bool ln ∧ wx = w1)
  case first =>
    as_aux_lemma =>
      have hl := HLN.out
      unfold lineB lnE at hl
      cases many with
      | false =>
        obtain rfl : ln = false := by rw [← hl]; rfl
        go_wp2_with fail
        go_meet
        exact ⟨rfl, rfl⟩
      | true =>
        rw [B0.out, Bool.true_and] at hl
        by_cases h10 : t[i].toNat = 10
        · obtain rfl : ln = true := by rw [← hl]; simp [h10]
          have f1 : ((t[i].toNat : Int) == 10) = true := by rw [beq_iff_eq]; omega
          have f1p : (t[i].toNat : Int) = 10 := by omega
          clear h10 hl
          go_wp2_with fail
          go_meet
          exact ⟨rfl, rfl⟩
        · have f1 : ((t[i].toNat : Int) == 10) = false := by rw [beq_eq_false_iff_ne]; omega
          have f1p : ¬ (t[i].toNat : Int) = 10 := by omega
          by_cases h13 : t[i].toNat = 13
          · have f2 : ((t[i].toNat : Int) == 13) = true := by rw [beq_iff_eq]; omega
            have f2p : (t[i].toNat : Int) = 13 := by omega
            by_cases hn : i + 1 < t.size
            · have f3 : decide ((i : Int) + 1 < (t.size : Int)) = true := decide_eq_true (by omega)
              have f3p : (i : Int) + 1 < (t.size : Int) := by omega
              rw [B1.out hn] at hl
              by_cases h14 : t[i + 1].toNat = 10
              · have f4 : ((t[i + 1].toNat : Int) == 10) = true := by rw [beq_iff_eq]; omega
                have f4p : (t[i + 1].toNat : Int) = 10 := by omega
                obtain rfl : ln = true := by rw [← hl]; simp [h13, h14]
                clear h10 hl h13 h14
                go_wp2_with fail
                go_meet
                exact ⟨rfl, rfl⟩
              · have f4 : ((t[i + 1].toNat : Int) == 10) = false := by rw [beq_eq_false_iff_ne]; omega
                have f4p : ¬ (t[i + 1].toNat : Int) = 10 := by omega
                obtain rfl : ln = false := by rw [← hl]; simp [h10, h14]
                clear h10 hl h13 h14
                go_wp2_with fail
                go_meet
                exact ⟨rfl, rfl⟩
            · have f3 : decide ((i : Int) + 1 < (t.size : Int)) = false := decide_eq_false (by omega)
              have f3p : ¬ (i : Int) + 1 < (t.size : Int) := by omega
              obtain rfl : ln = false := by rw [← hl, N1.out (by omega)]; simp [h10]
              clear h10 hl h13
              go_wp2_with fail
              go_meet
              exact ⟨rfl, rfl⟩
          · have f2 : ((t[i].toNat : Int) == 13) = false := by rw [beq_eq_false_iff_ne]; omega
            have f2p : ¬ (t[i].toNat : Int) = 13 := by omega
            obtain rfl : ln = false := by rw [← hl]; simp [h10, h13]
            clear h10 hl h13
            go_wp2_with fail
            go_meet
            exact ⟨rfl, rfl⟩
  case rest =>
  obtain ⟨rfl, hwc⟩ := hcut
  obtain rfl := hwc.symm
  obtain ⟨bd, hbd⟩ : ∃ bd : Bool, (decide (tkN (t.data.toList.drop i) = 0) || ((decide (t[i].toNat < 32) || decide (t[i].toNat = 127)) && !decide (t[i].toNat = 9) && !ln)) = bd := ⟨_, rfl⟩
  have HBD := hid hbd
  have HBB := hid (show badB many (t.data.toList.drop i) ↔ bd = true by
    rw [← hbd]
    unfold badB
    rw [HLN.out, B0.out]
    simp [Bool.or_eq_true, Bool.and_eq_true, and_assoc])
  clear hbd
  go_upto_region 35 with fail
  go_cut [250] from 101 to 262 (fun v wx => v = .bool bd ∧ wx = w1)
  case first =>
    as_aux_lemma =>
      have hbd := HBD.out
      by_cases z0 : tkN (t.data.toList.drop i) = 0
      · have f0 : (((tkN (t.data.toList.drop i) : Nat) : Int) == 0) = true := by rw [z0]; rfl
        obtain rfl : bd = true := by rw [← hbd, decide_eq_true z0]; rfl
        clear hbd z0
        go_wp2_with fail
        go_meet
        exact ⟨rfl, rfl⟩
      · have f0 : (((tkN (t.data.toList.drop i) : Nat) : Int) == 0) = false := by rw [beq_eq_false_iff_ne]; omega
        rw [decide_eq_false z0, Bool.false_or] at hbd
        generalize tkN (t.data.toList.drop i) = n at *
        by_cases z1 : t[i].toNat < 32
        · have f1 : decide ((t[i].toNat : Int) < 32) = true := decide_eq_true (by omega)
          have f1p : (t[i].toNat : Int) < 32 := by omega
          rw [decide_eq_true z1, Bool.true_or, Bool.true_and] at hbd
          by_cases z3 : t[i].toNat = 9
          · have f3 : ((t[i].toNat : Int) != 9) = false := by rw [bne_eq_false_iff_eq]; omega
            have f3p : (t[i].toNat : Int) = 9 := by omega
            obtain rfl : bd = false := by rw [← hbd, decide_eq_true z3]; rfl
            clear hbd z0 z1 z3
            go_wp2_with fail
            go_meet
            exact ⟨rfl, rfl⟩
          · have f3 : ((t[i].toNat : Int) != 9) = true := by rw [bne_iff_ne]; omega
            have f3p : ¬ (t[i].toNat : Int) = 9 := by omega
            obtain rfl : bd = !ln := by rw [← hbd, decide_eq_false z3]; rfl
            clear hbd z0 z1 z3
            cases ln
            all_goals
              go_wp2_with fail
              go_meet
              exact ⟨rfl, rfl⟩
        · have f1 : decide ((t[i].toNat : Int) < 32) = false := decide_eq_false (by omega)
          have f1p : ¬ (t[i].toNat : Int) < 32 := by omega
          rw [decide_eq_false z1, Bool.false_or] at hbd
          by_cases z2 : t[i].toNat = 127
          · have f2 : ((t[i].toNat : Int) == 127) = true := by rw [beq_iff_eq]; omega
            have f2p : (t[i].toNat : Int) = 127 := by omega
            have f3 : ((t[i].toNat : Int) != 9) = true := by rw [bne_iff_ne]; omega
            have f3p : ¬ (t[i].toNat : Int) = 9 := by omega
            obtain rfl : bd = !ln := by rw [← hbd, decide_eq_true z2, decide_eq_false (by omega)]; rfl
            clear hbd z0 z1 z2
            cases ln
            all_goals
              go_wp2_with fail
              go_meet
              exact ⟨rfl, rfl⟩
          · have f2 : ((t[i].toNat : Int) == 127) = false := by rw [beq_eq_false_iff_ne]; omega
            have f2p : ¬ (t[i].toNat : Int) = 127 := by omega
            obtain rfl : bd = false := by rw [← hbd, decide_eq_false z2]; rfl
            clear hbd z0 z1 z2
            go_wp2_with fail
            go_meet
            exact ⟨rfl, rfl⟩
  case rest =>
  obtain ⟨rfl, hwc⟩ := hcut
  obtain rfl := hwc.symm
  obtain rfl : bd = false := by
    cases bd with
    | false => rfl
    | true => exact absurd (HBB.out.2 rfl) hbad
  obtain ⟨f', HN1, HN2⟩ := tu_plain (many := many) (acc := acc) HF.out HTL.out HNQ.out HQQ.out HB92.out hbad
  have HN3 := hid (HN1.symm.trans HRD.out)
  have HN4 := hid HN2
  have hn0 : 0 < tkN (t.data.toList.drop i) := by
    by_cases h : tkN (t.data.toList.drop i) = 0
    · exact absurd (Or.inl h) hbad
    · omega
  have HM2 := hid (show A ++ t.extract i (i + tkN (t.data.toList.drop i)) = mkS (acc ++ (t.data.toList.drop i).take (tkN (t.data.toList.drop i))) by rw [ext_mkS, HA.out, mkS_app])
  have HMS := hid (show (t.extract i (i + tkN (t.data.toList.drop i))).size = tkN (t.data.toList.drop i) by rw [ByteArray.size_extract]; omega)
  have hms' : (t.extract i (i + tkN (t.data.toList.drop i))).size ≤ 1000000 := by rw [HMS.out]; omega
  clear HN1 HN2 HBB HBD hbad hret
  generalize tkN (t.data.toList.drop i) = n at *
  go_wp2_with fail
  refine ⟨⟨rfl, rfl, rfl, rfl, rfl, rfl, i + n, f', acc ++ (t.data.toList.drop i).take n, A ++ t.extract i (i + n), ?_, rfl, ⟨by omega, by rw [ByteArray.size_append, HMS.out]; omega, HM2.out, HN3.out, HN4.out, HB01.out⟩⟩, ?_⟩
  · exact val_int (by omega)
  · show t.size - (intOf (.int .i64 _)).toNat < t.size - i
    simp [intOf]; omega
end Go.Proofs.YtlapefhnbbcmmaaGreatDoor
