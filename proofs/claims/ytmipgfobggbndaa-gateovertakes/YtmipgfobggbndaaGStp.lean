/-
  A step of a script.
-/
import Derived.Test.YtmipgfobggbndaaGGate
namespace Go.Proofs.Ytmipgfobggbndaa
open Go.RowKit

structure Stp where
  ch : Int
  f : Fr
  ld : Bool
  mv : Value
  m : List Int
def Stp.cs (x : Stp) : List Value := [.int .i64 x.ch, .int .i64 x.f.kd, .int .i64 x.f.ke, .int .i64 x.f.ti, .int .i64 x.f.va, .int .i64 x.f.ma, .int .u64 x.f.n, .bool x.f.ov, .bool x.ld, x.mv]
theorem Stp.cs_len (x : Stp) : x.cs.length = 10 := rfl
def u8cs (x : Nat) : List Value := [.int .u8 (x : Int)]
theorem u8cs_len (x : Nat) : (u8cs x).length = 1 := rfl
end Go.Proofs.Ytmipgfobggbndaa
