/-
  A channel of whole numbers in a law: Kill, Drain, Epoch, Waiting.
-/
import Derived.Test.YtnomoekbfclckaaFKnown
import Derived.Test.YtnomoekbfclckaaFDrnI
import Derived.Test.YtnomoekbfclckaaFPure2
import Derived.Test.YtnomoekbfclckaaFStp
namespace Go.Proofs.Ytnomoekbfclckaa
open Go.RowKit

section
variable {W w w' : World} {K cr : Nat} {S : FS Int}
theorem FlI.crl (H : FlI W w K cr S) : cr ≤ 64 := by obtain ⟨fp, ⟨_, h, _⟩, _⟩ := H; exact h
theorem FlI.wl (H : FlI W w K cr S) : S.wait.length ≤ cr := by obtain ⟨fp, ⟨h, _⟩, _⟩ := H; exact h
theorem fKillI (H : FlI W w K cr S) (e' : Int) : Calls Try.prog 28 #[.pointer (some ⟨K, 0, none⟩), .int .u64 e'] w fun r w' => r = .returned (.tuple #[]) ∧ FlI W w' K cr (pKill S e') := by
  obtain ⟨fp, h1, h2, h3⟩ := H
  exact (cKillI h1 e').mono (fun r w' h => ⟨h.1, FlI.did h2 h3 h.2⟩)
theorem fDrainI (H : FlI W w K cr S) (hb : S.back.length ≤ 512) (hm : S.mov.length ≤ 512) : Calls Try.prog 14 #[.pointer (some ⟨K, 0, none⟩)] w fun r w' => ∃ v, r = .returned v ∧ LSeg 1 i64cs w'.heap.size w' v (pAll S) ∧ FlI W w' K cr (pDrain S) := by
  have hwl := H.wl
  have hcr := H.crl
  obtain ⟨fp, h1, h2, h3⟩ := H
  refine (cDrainI h1 hb hm).mono ?_
  rintro r w' ⟨v, rfl, o, d⟩
  exact ⟨v, rfl, (Row.of_own o).lseg (by rw [all_len]; omega), FlI.did h2 h3 d⟩
theorem fEpochI (H : FlI W w K cr S) : Calls Try.prog 18 #[.pointer (some ⟨K, 0, none⟩)] w fun r w' => r = .returned (.int .u64 S.e) ∧ w' = w := by
  obtain ⟨fp, h1, h2, h3⟩ := H
  exact cEpochI h1
theorem fWaitingI (H : FlI W w K cr S) : Calls Try.prog 17 #[.pointer (some ⟨K, 0, none⟩)] w fun r w' => r = .returned (.int .i64 S.wait.length) ∧ w' = w := by
  obtain ⟨fp, h1, h2, h3⟩ := H
  exact cWaitingI h1
end
end Go.Proofs.Ytnomoekbfclckaa
