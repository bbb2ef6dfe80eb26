/-
  While one place is reckoned: what is known behind each of the operations.
-/
import Derived.Test.YtfponjonbhnmlaaRefMatch
namespace Go.Proofs.Ytfponjonbhnmlaa.RefGlob
open Go.RowKit
open Go.Proofs.Ytfponjonbhnmlaa.Region
structure J16 (w : World) (vat vto vl vr x : Value) (i j jm c : Int) (pa pl pr pt : Addr) (b1 b2 bh : Bool) (d : Nat → Bool) (ys : Nat → Value) (wx : World) : Prop where
  pre : d 24 = false → Below w.heap.size w wx
  s0 : d 0 = true → ys 71 = vto
  s1 : d 1 = true → ys 72 = .int .i64 j
  s2 : d 2 = true → ys 73 = .int .i64 j
  s3 : d 3 = true → ys 74 = .bool b1
  s4 : d 4 = true → ys 75 = .bool b1
  s5 : d 5 = true → b1 = true → ys 76 = vat
  s6 : d 6 = true → b1 = true → ys 77 = .int .i64 j
  s7 : d 7 = true → b1 = true → ys 78 = .int .i64 jm
  s8 : d 8 = true → b1 = true → ys 79 = .pointer (some pa)
  s9 : d 9 = true → b1 = true → ys 80 = .bool b2
  s10 : d 10 = true → ys 81 = .bool b2
  s11 : d 11 = true → ys 82 = .bool b2
  s12 : d 12 = true → b2 = true → ys 83 = vl
  s13 : d 13 = true → b2 = true → ys 84 = .int .i64 i
  s14 : d 14 = true → b2 = true → ys 85 = .pointer (some pl)
  s15 : d 15 = true → b2 = true → ys 86 = x
  s16 : d 16 = true → b2 = true → ys 87 = vr
  s17 : d 17 = true → b2 = true → ys 88 = .int .i64 j
  s18 : d 18 = true → b2 = true → ys 89 = .int .i64 jm
  s19 : d 19 = true → b2 = true → ys 90 = .pointer (some pr)
  s20 : d 20 = true → b2 = true → ys 91 = .int .i64 c
  s21 : d 21 = true → b2 = true → ys 92 = .bool bh
  s22 : d 22 = true → ys 93 = .bool (b2 && bh)
  s23 : d 23 = true → ys 94 = .pointer (some pt)
  post : d 24 = true → ∃ wy, Below w.heap.size w wy ∧ wx = wy.setCell pt (.bool (b2 && bh))
end Go.Proofs.Ytfponjonbhnmlaa.RefGlob
