/-
  Texts of the vault, in build order: VKnownP.
-/
import Derived.Test.YtbfhcbihgleddaaGreatDoorM33
/-
  The vault that is worked by hand in the law: its disk behind each step, by evaluation.
-/
namespace Go.Proofs.YtbfhcbihgleddaaGreatDoor
def ks : Sn := ⟨1, 2, 0, [], [], []⟩
def kc : List Nat := [0, 0, 0, 18, 72, 59, 181, 159, 0, 1, 0, 2, 0, 0, 0, 0, 0, 0, 0, 0, 0, 0, 0, 0, 0, 0]
def kp0 : Pd := ⟨[], 1048576, -1⟩
def kpart (n : UInt8) : ByteArray := ⟨#[112, 97, 114, 116, 46, n, 46, 48, 46, 49, 116, 118, 101, 53, 107, 97]⟩
def ksn (n ep : Nat) (c : UInt8) : Sp := ⟨n, ep, [kpart c], [kc]⟩
def kfp (c : UInt8) : Fi := ⟨[112, 97, 114, 116, 46, c, 46, 48, 46, 49, 116, 118, 101, 53, 107, 97], [0, 0, 0, 26, 237, 104, 54, 170, 0, 0, 0, 18, 72, 59, 181, 159, 0, 1, 0, 2, 0, 0, 0, 0, 0, 0, 0, 0, 0, 0, 0, 0, 0, 0], 34⟩
def kfw (c : UInt8) (x : List Nat) (n ep c2 : Nat) : Fi := ⟨[119, 104, 111, 108, 101, 46, c], [0, 0, 0, 35] ++ x ++ [0, 0, 0, 0, 0, 0, 0, n, 0, 0, 0, 0, 0, 0, 0, ep, 0, 1, 16, 112, 97, 114, 116, 46, c2, 46, 48, 46, 49, 116, 118, 101, 53, 107, 97], 43⟩
def kw1 := kfw 49 [49, 170, 218, 65] 1 1 49
def kw2 := kfw 50 [170, 150, 187, 103] 2 1 50
def kw5 := kfw 53 [40, 13, 16, 125] 5 2 53
theorem kpk : pk [] [] [ks] = ([kc], 0) := by kernel_rfl
theorem kput1 : pPut 2 kp0 [] [] 1 1 ([kc], 0) = (⟨[kfp 49, kw1], 1048576, -1⟩, 0, [ksn 1 1 49], []) := by kernel_rfl
theorem kput2 : pPut 2 ⟨[kfp 49, kw1], 1048576, -1⟩ [ksn 1 1 49] [] 2 1 ([kc], 0) = (⟨[kfp 49, kfp 50, kw1, kw2], 1048576, -1⟩, 0, [ksn 1 1 49, ksn 2 1 50], []) := by kernel_rfl
theorem kput5 : pPut 2 ⟨[kfp 49, kfp 50, kw1, kw2], 1048576, -1⟩ [ksn 1 1 49, ksn 2 1 50] [] 5 2 ([kc], 0) = (⟨[kfp 50, kfp 53, kw2, kw5], 1048576, -1⟩, 0, [ksn 2 1 50, ksn 5 2 53], []) := by kernel_rfl
theorem kput6 : pPut 2 ⟨[kfp 50, kfp 53, kw2, kw5], 1048576, -1⟩ [ksn 2 1 50, ksn 5 2 53] [] 5 2 ([kc], 0) = (⟨[kfp 50, kfp 53, kw2, kw5], 1048576, -1⟩, 31, [ksn 2 1 50, ksn 5 2 53], []) := by kernel_rfl
theorem kcrash : crashL [] [kfp 50, kfp 53, kw2, kw5] = [kfp 50, kfp 53, kw2, kw5] := by kernel_rfl
theorem kfound : foundS ⟨[kfp 50, kfp 53, kw2, kw5], 1048576, -1⟩ (([kfp 50, kfp 53, kw2, kw5].map Fi.n).map mkS) = [ksn 2 1 50, ksn 5 2 53] := by kernel_rfl
theorem kgot : gotS [kc] = [ks] := by kernel_rfl
end Go.Proofs.YtbfhcbihgleddaaGreatDoor
