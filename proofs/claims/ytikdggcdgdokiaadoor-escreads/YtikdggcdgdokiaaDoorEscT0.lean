/- The loop of the document's TUnquote, its round by cases: what all cases share. -/
import Derived.Test.YtikdggcdgdokiaaDoorEscTun
import Derived.Deep.CutBlock
namespace Go.Proofs.YtikdggcdgdokiaaDoor
open Go.RowKit

/-- the first loop's body in a code -/
def firstLoop : Code → Option Code
  | .loop c => some c
  | .seq a b => match firstLoop a with
    | some c => some c
    | none => firstLoop b
  | .block _ c => firstLoop c
  | .scope c => firstLoop c
  | .cond _ a b => match firstLoop a with
    | some c => some c
    | none => firstLoop b
  | _ => none
/-- a list of known length, written out -/
theorem list_lit : ∀ (n : Nat) (l : List Value), l.length = n → l = (List.range n).map (fun k => l.getD k undef)
  | n, l, h => by
    apply List.ext_getElem
    · simp [h]
    · intro k h1 h2
      simp [List.getD, List.getElem?_eq_getElem h1]
set_option maxRecDepth 100000 in
theorem lit_frame (x : Array Value) (h : x.size = 265) : x = #[x.getD 0 undef, x.getD 1 undef, x.getD 2 undef, x.getD 3 undef, x.getD 4 undef, x.getD 5 undef, x.getD 6 undef, x.getD 7 undef, x.getD 8 undef, x.getD 9 undef, x.getD 10 undef, x.getD 11 undef, x.getD 12 undef, x.getD 13 undef, x.getD 14 undef, x.getD 15 undef, x.getD 16 undef, x.getD 17 undef, x.getD 18 undef, x.getD 19 undef, x.getD 20 undef, x.getD 21 undef, x.getD 22 undef, x.getD 23 undef, x.getD 24 undef, x.getD 25 undef, x.getD 26 undef, x.getD 27 undef, x.getD 28 undef, x.getD 29 undef, x.getD 30 undef, x.getD 31 undef, x.getD 32 undef, x.getD 33 undef, x.getD 34 undef, x.getD 35 undef, x.getD 36 undef, x.getD 37 undef, x.getD 38 undef, x.getD 39 undef, x.getD 40 undef, x.getD 41 undef, x.getD 42 undef, x.getD 43 undef, x.getD 44 undef, x.getD 45 undef, x.getD 46 undef, x.getD 47 undef, x.getD 48 undef, x.getD 49 undef, x.getD 50 undef, x.getD 51 undef, x.getD 52 undef, x.getD 53 undef, x.getD 54 undef, x.getD 55 undef, x.getD 56 undef, x.getD 57 undef, x.getD 58 undef, x.getD 59 undef, x.getD 60 undef, x.getD 61 undef, x.getD 62 undef, x.getD 63 undef, x.getD 64 undef, x.getD 65 undef, x.getD 66 undef, x.getD 67 undef, x.getD 68 undef, x.getD 69 undef, x.getD 70 undef, x.getD 71 undef, x.getD 72 undef, x.getD 73 undef, x.getD 74 undef, x.getD 75 undef, x.getD 76 undef, x.getD 77 undef, x.getD 78 undef, x.getD 79 undef, x.getD 80 undef, x.getD 81 undef, x.getD 82 undef, x.getD 83 undef, x.getD 84 undef, x.getD 85 undef, x.getD 86 undef, x.getD 87 undef, x.getD 88 undef, x.getD 89 undef, x.getD 90 undef, x.getD 91 undef, x.getD 92 undef, x.getD 93 undef, x.getD 94 undef, x.getD 95 undef, x.getD 96 undef, x.getD 97 undef, x.getD 98 undef, x.getD 99 undef, x.getD 100 undef, x.getD 101 undef, x.getD 102 undef, x.getD 103 undef, x.getD 104 undef, x.getD 105 undef, x.getD 106 undef, x.getD 107 undef, x.getD 108 undef, x.getD 109 undef, x.getD 110 undef, x.getD 111 undef, x.getD 112 undef, x.getD 113 undef, x.getD 114 undef, x.getD 115 undef, x.getD 116 undef, x.getD 117 undef, x.getD 118 undef, x.getD 119 undef, x.getD 120 undef, x.getD 121 undef, x.getD 122 undef, x.getD 123 undef, x.getD 124 undef, x.getD 125 undef, x.getD 126 undef, x.getD 127 undef, x.getD 128 undef, x.getD 129 undef, x.getD 130 undef, x.getD 131 undef, x.getD 132 undef, x.getD 133 undef, x.getD 134 undef, x.getD 135 undef, x.getD 136 undef, x.getD 137 undef, x.getD 138 undef, x.getD 139 undef, x.getD 140 undef, x.getD 141 undef, x.getD 142 undef, x.getD 143 undef, x.getD 144 undef, x.getD 145 undef, x.getD 146 undef, x.getD 147 undef, x.getD 148 undef, x.getD 149 undef, x.getD 150 undef, x.getD 151 undef, x.getD 152 undef, x.getD 153 undef, x.getD 154 undef, x.getD 155 undef, x.getD 156 undef, x.getD 157 undef, x.getD 158 undef, x.getD 159 undef, x.getD 160 undef, x.getD 161 undef, x.getD 162 undef, x.getD 163 undef, x.getD 164 undef, x.getD 165 undef, x.getD 166 undef, x.getD 167 undef, x.getD 168 undef, x.getD 169 undef, x.getD 170 undef, x.getD 171 undef, x.getD 172 undef, x.getD 173 undef, x.getD 174 undef, x.getD 175 undef, x.getD 176 undef, x.getD 177 undef, x.getD 178 undef, x.getD 179 undef, x.getD 180 undef, x.getD 181 undef, x.getD 182 undef, x.getD 183 undef, x.getD 184 undef, x.getD 185 undef, x.getD 186 undef, x.getD 187 undef, x.getD 188 undef, x.getD 189 undef, x.getD 190 undef, x.getD 191 undef, x.getD 192 undef, x.getD 193 undef, x.getD 194 undef, x.getD 195 undef, x.getD 196 undef, x.getD 197 undef, x.getD 198 undef, x.getD 199 undef, x.getD 200 undef, x.getD 201 undef, x.getD 202 undef, x.getD 203 undef, x.getD 204 undef, x.getD 205 undef, x.getD 206 undef, x.getD 207 undef, x.getD 208 undef, x.getD 209 undef, x.getD 210 undef, x.getD 211 undef, x.getD 212 undef, x.getD 213 undef, x.getD 214 undef, x.getD 215 undef, x.getD 216 undef, x.getD 217 undef, x.getD 218 undef, x.getD 219 undef, x.getD 220 undef, x.getD 221 undef, x.getD 222 undef, x.getD 223 undef, x.getD 224 undef, x.getD 225 undef, x.getD 226 undef, x.getD 227 undef, x.getD 228 undef, x.getD 229 undef, x.getD 230 undef, x.getD 231 undef, x.getD 232 undef, x.getD 233 undef, x.getD 234 undef, x.getD 235 undef, x.getD 236 undef, x.getD 237 undef, x.getD 238 undef, x.getD 239 undef, x.getD 240 undef, x.getD 241 undef, x.getD 242 undef, x.getD 243 undef, x.getD 244 undef, x.getD 245 undef, x.getD 246 undef, x.getD 247 undef, x.getD 248 undef, x.getD 249 undef, x.getD 250 undef, x.getD 251 undef, x.getD 252 undef, x.getD 253 undef, x.getD 254 undef, x.getD 255 undef, x.getD 256 undef, x.getD 257 undef, x.getD 258 undef, x.getD 259 undef, x.getD 260 undef, x.getD 261 undef, x.getD 262 undef, x.getD 263 undef, x.getD 264 undef] := by
  have h1 := list_lit 265 x.toList (by simpa using h)
  apply Array.ext'
  rw [h1]
  have h2 : ∀ k, x.toList.getD k undef = x.getD k undef := fun k => by simp [List.getD, Array.getD_eq_getD_getElem?]
  simp only [h2]
  rfl
/-- what a round finds and leaves -/
structure TRel (many : Bool) (t : ByteArray) (Q : Nat) (R : List UInt8 × Nat × Int) (w : World) (i f : Nat) (acc : List UInt8) (A : ByteArray) (wr : World) : Prop where
  le : i ≤ t.size
  size : A.size ≤ i
  text : A = mkS acc
  run : rd (EE many Q) (PP many Q) t.data.toList f i acc = R
  fuel : t.data.toList.length < i + f
  bel : Below w.heap.size w wr
structure TI (many : Bool) (t : ByteArray) (a : Nat) (ha : a < t.size) (Q : Nat) (R : List UInt8 × Nat × Int) (w : World) (x : Act) (wr : World) : Prop where
  def_ : x.defers = []
  len : x.tmps.size = 265
  s0 : x.tmps.getD 0 undef = .string t
  s1 : x.tmps.getD 1 undef = .int .i64 (a : Int)
  s7 : x.tmps.getD 7 undef = .int .u8 (t[a].toNat : Int)
  s8 : x.tmps.getD 8 undef = .bool many
  rel : ∃ i f acc A, x.tmps.getD 9 undef = .int .i64 ((i : Nat) : Int) ∧ x.tmps.getD 10 undef = .string A ∧ TRel many t Q R w i f acc A wr
def Tmu (t : ByteArray) (x : Act) (_ : World) : Nat := t.size - (intOf (x.tmps.getD 9 undef)).toNat
/-- where the loop is left for what stands behind it -/
structure TX (t : ByteArray) (R : List UInt8 × Nat × Int) (w : World) (x : Act) (wr : World) : Prop where
  def_ : x.defers = []
  len : x.tmps.size = 265
  s0 : x.tmps.getD 0 undef = .string t
  res : R = ([], 0, (t.size : Int))
  bel : Below w.heap.size w wr
/-- what a caller is told: that a return is what it must be -/
def TRet (R : List UInt8 × Nat × Int) (w : World) (Q0 : Exit → Act → World → Prop) : Prop := ∀ x wr, x.defers = [] →
  (results Tryd.f13 x.tmps).run Tryd.prog wr = .ok (.tuple #[.string (mkS R.1), .int .i64 ((R.2.1 : Nat) : Int), .int .i64 R.2.2]) wr → Below w.heap.size w wr → Q0 .ret x wr
theorem mu_lt {t : ByteArray} {i j : Nat} (h : i < j) (h2 : j ≤ t.size) : t.size - (intOf (.int .i64 ((j : Nat) : Int))).toNat < t.size - (intOf (.int .i64 ((i : Nat) : Int))).toNat := by
  simp [intOf]; omega
end Go.Proofs.YtikdggcdgdokiaaDoor
