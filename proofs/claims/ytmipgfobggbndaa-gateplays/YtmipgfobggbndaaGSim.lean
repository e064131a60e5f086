/-
  Two gates that tell the same: where nothing is under way, whatever barriers came before.
-/
import Derived.Test.YtmipgfobggbndaaRBar
namespace Go.Proofs.Ytmipgfobggbndaa
open Go.RowKit

def Sim (s r : Gs) : Prop := s = r ∨ (s.un = 0 ∧ r = { s with co := r.co } ∧ r.co.length = s.co.length)
theorem Gs.idle_zero {s : Gs} (h : s.un = 0) (c : Nat) (n : Int) : s.idle c n = true := by
  unfold Gs.idle
  rw [h]
  by_cases h0 : n = 0
  · simp [h0]
  · simp [h0]
theorem Sim.bl {s r : Gs} (h : Sim s r) (ch : Int) : s.bl ch = r.bl ch := by
  rcases h with rfl | ⟨h0, h1, _⟩
  · rfl
  · rw [h1]
    unfold Gs.bl Gs.has
    simp only [h0]
    simp
theorem Sim.tk {s r : Gs} (h : Sim s r) (ch : Int) (f : Fr) : s.tkS ch f = r.tkS ch f ∧ s.tkE ch = r.tkE ch ∧ Sim (s.tk ch f) (r.tk ch f) := by
  have hbl := h.bl ch
  rcases h with rfl | ⟨h0, h1, h2⟩
  · exact ⟨rfl, rfl, .inl rfl⟩
  · generalize hrc : r.co = rc at *
    subst h1
    have hhas : ({ s with co := rc } : Gs).has ch = s.has ch := rfl
    have hok : ({ s with co := rc } : Gs).ok ch = s.ok ch := by unfold Gs.ok; rw [hhas, ← hbl]
    have hcapt : ∀ c, s.capt c f = s := fun c => by unfold Gs.capt; rw [if_neg (fun e => e.1 h0)]
    have hcapt2 : ∀ c, ({ s with co := rc } : Gs).capt c f = { s with co := rc } := fun c => by unfold Gs.capt; rw [if_neg (fun e => e.1 h0)]
    have hrise : ∀ c m, ({ s with co := rc } : Gs).rise c m = { (s.rise c m) with co := rc } := fun c m => by
      unfold Gs.rise
      simp only
      split <;> rfl
    have hru : ∀ c m, (s.rise c m).un = 0 ∧ (s.rise c m).co = s.co := fun c m => by
      unfold Gs.rise
      split <;> exact ⟨h0, rfl⟩
    refine ⟨?_, ?_, ?_⟩
    · unfold Gs.tkS
      rw [hok, hcapt, hcapt2]
      split
      · split
        · rfl
        · split
          · unfold Gs.riseS
            rw [hrise]
          · split
            · unfold Gs.barS Gs.bg
              by_cases hl : s.la < f.n
              · rw [if_pos hl, if_pos (show ({ s with co := rc } : Gs).la < f.n from hl)]
                rfl
              · rw [if_neg hl, if_neg (show ¬ ({ s with co := rc } : Gs).la < f.n from hl), if_pos (Gs.idle_zero h0 _ _), if_pos (Gs.idle_zero (s := { s with co := rc }) h0 _ _)]
            · rfl
      · rfl
    · unfold Gs.tkE
      rw [hok]
    · have stay : Sim s { s with co := rc } := .inr ⟨h0, rfl, h2⟩
      unfold Gs.tk
      rw [hok, hcapt, hcapt2]
      split
      · split
        · exact stay
        · split
          · rw [hrise]
            exact .inr ⟨(hru _ _).1, rfl, by rw [(hru _ _).2]; exact h2⟩
          · split
            · unfold Gs.bar Gs.bg
              by_cases hl : s.la < f.n
              · rw [if_pos hl, if_pos (show ({ s with co := rc } : Gs).la < f.n from hl)]
                exact .inl rfl
              · rw [if_neg hl, if_neg (show ¬ ({ s with co := rc } : Gs).la < f.n from hl), if_pos (Gs.idle_zero h0 _ _), if_pos (Gs.idle_zero (s := { s with co := rc }) h0 _ _)]
                exact stay
            · exact stay
      · exact stay
theorem Sim.eqs {s r : Gs} (h : Sim s r) : s.M = r.M ∧ s.la = r.la ∧ s.un = r.un ∧ s.cp = r.cp := by
  rcases h with rfl | ⟨h0, h1, h2⟩
  · exact ⟨rfl, rfl, rfl, rfl⟩
  · rw [h1]; exact ⟨rfl, rfl, rfl, rfl⟩
theorem Sim.ld {s r : Gs} (h : Sim s r) (l : List Int) {n : Nat} (hn : n = r.M.length) (hl : s.co.length = s.M.length) : Sim (s.ld l) { r with M := ldM n l, un := 0, co := List.replicate n false, cp := [] } := by
  obtain ⟨e1, e2, e3, e4⟩ := h.eqs
  refine .inr ⟨rfl, ?_, ?_⟩
  · have hov : r.ov = s.ov := by
      rcases h with rfl | ⟨_, h1, _⟩
      · rfl
      · rw [h1]
    unfold Gs.ld
    rw [hn, ← e1, hov, e2]
  · show (List.replicate n false).length = s.co.length
    rw [hl, e1, ← hn]; simp
theorem Gs.Sm_ld {r : Gs} (n : Nat) (l : List Int) : ({ r with M := ldM n l, un := 0, co := List.replicate n false, cp := [] } : Gs).Sm := fun e => absurd rfl e
theorem Gs.Sm_tk {r : Gs} (h : r.Sm) (hl : r.co.length = r.M.length) (h0 : 0 ≤ r.la) (ch : Int) (f : Fr) : (r.tk ch f).Sm := by
  have hcapt : ∀ c, (r.capt c f).Sm := fun c => by unfold Gs.capt; split <;> exact h
  have hrise : ∀ (s : Gs) c m, s.Sm → (s.rise c m).Sm := fun s c m hs => by unfold Gs.rise; split <;> exact hs
  unfold Gs.tk
  split
  · rename_i hok
    split
    · exact hcapt _
    · split
      · exact hrise _ _ _ (hcapt _)
      · split
        · have hhas : r.has ch = true := by
            unfold Gs.ok at hok
            rw [Bool.and_eq_true] at hok
            exact hok.1
          obtain ⟨c, rfl, hc⟩ := Gs.has_nat hhas
          rw [Int.toNat_natCast]
          have hbl : (r.bg f.n f.ov).co.length = r.M.length := by unfold Gs.bg; split <;> simp [Gs.beg, hl]
          unfold Gs.bar
          split
          · rename_i hid
            unfold Gs.bg at hid ⊢
            split
            · rename_i hlt
              rw [if_pos hlt] at hid
              exfalso
              have hco : (r.beg f.n f.ov).co.getD c false = false := by simp [Gs.beg, hc]
              unfold Gs.idle at hid
              rw [hco] at hid
              simp [Gs.beg] at hid
              omega
            · exact h
          · rename_i hid
            intro hun
            unfold Gs.idle at hid
            have hcf : (r.bg f.n f.ov).co[c]? = some false := by
              obtain ⟨b, hb⟩ := get_of_lt (show c < (r.bg f.n f.ov).co.length by rw [hbl]; exact hc)
              cases b with
              | false => exact hb
              | true => simp [hb] at hid
            have hcc := count_come hcf
            have hle := List.count_le_length (a := false) (l := (r.bg f.n f.ov).co)
            unfold Gs.arr at hun ⊢
            have e : ((r.bg f.n f.ov).come c).co = (r.bg f.n f.ov).co.set c true := rfl
            split at hun
            · exact absurd rfl hun
            · rename_i hms
              rw [if_neg hms, e, List.length_set]
              omega
        · exact h
  · exact h
end Go.Proofs.Ytmipgfobggbndaa
