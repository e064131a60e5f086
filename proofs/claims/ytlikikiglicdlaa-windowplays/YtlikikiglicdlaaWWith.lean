/-
  withSpan, withSession.
-/
import Derived.Test.YtlikikiglicdlaaWJoin
namespace Go.Proofs.Ytlikikiglicdlaa
open Go.RowKit

theorem addSp_hit {J : Int → Int → Int} {fr : Pn} {v : Int} : ∀ {l : List Pn} {i : Nat} {p : Pn}, l[i]? = some p → (p.k = fr.k ∧ p.f = fr.f ∧ p.t = fr.t) → (∀ a x, a < i → l[a]? = some x → ¬ (x.k = fr.k ∧ x.f = fr.f ∧ x.t = fr.t)) → l.set i (withA p (J p.a v)) = addSp J fr v l
  | [], _, _, h, _, _ => by simp at h
  | q :: l, 0, p, h, hm, _ => by
    simp at h; subst h
    simp [addSp, hm]
  | q :: l, i + 1, p, h, hm, hb => by
    have h1 := hb 0 q (by omega) rfl
    rw [addSp, if_neg h1, List.set_cons_succ, addSp_hit (by simpa using h) hm fun a x ha hx => hb (a + 1) x (by omega) (by simpa using hx)]
theorem addSp_miss {J : Int → Int → Int} {fr : Pn} {v : Int} : ∀ {l : List Pn}, (∀ x ∈ l, ¬ (x.k = fr.k ∧ x.f = fr.f ∧ x.t = fr.t)) → (l ++ [fr]).set l.length (withA fr (J fr.a v)) = addSp J fr v l
  | [], _ => by simp [addSp]
  | q :: l, hb => by
    rw [addSp, if_neg (hb q (List.mem_cons_self ..)), List.length_cons, List.cons_append, List.set_cons_succ, addSp_miss fun x hx => hb x (List.mem_cons_of_mem _ hx)]
theorem grown_sub {w w' : World} {r r' : Option Nat} (h : w.grownBy w' r) (hr : ∀ g, r = some g → r' = some g) : w.grownBy w' r' :=
  ⟨h.os, h.tape, h.output, h.size, fun i hi hne => h.block i hi (fun e => hne ((hr i e.symm).symm))⟩
theorem grown_of_below {w w' : World} (h : Below w.heap.size w w') (r : Option Nat) : w.grownBy w' r := ⟨h.os, h.tape, h.output, h.size, fun i hi _ => h.block i hi⟩
/-- A row, and the place in it that is to be added to. -/
def Spot (base : Nat) (w w' : World) (v : Value) (e : Ending) (res : Int → List Pn) (a : Int) (n : Nat) : Prop :=
  ∃ v' l' i p, e = .returned (.tuple #[v', .int .i64 ((i : Nat) : Int)]) ∧ OwnL 46 4 Pn.cs base w' v' l' ∧ w.grownBy w' v.ownBlock ∧ (∀ g, v'.ownBlock = some g → v.ownBlock = some g ∨ w.heap.size ≤ g) ∧ l'[i]? = some p ∧ (∀ v, l'.set i (withA p (jn a p.a v)) = res v) ∧ l'.length ≤ n + 1
set_option maxHeartbeats 4000000 in
set_option maxRecDepth 100000 in
theorem withSpan_any {w : World} {base : Nat} {v : Value} {l : List Pn} (ho : OwnL 46 4 Pn.cs base w v l) (hb : base ≤ w.heap.size) (hn : l.length ≤ 100000) (fr : Pn) (a : Int) :
    Calls Try.prog 32 #[v, fr.val] w fun e w' => Spot base w w' v e (fun v => addSp (jn a) fr v l) a l.length := by
  obtain ⟨ao, cap, rfl⟩ := ho.shape
  have HO := hide ho
  have HL := hide (ho.seg Pn.cs_len (by omega))
  have HF : Hid (BoxT 46 (w.alloc (.cells #[.int .i64 fr.k, .int .i64 fr.f, .int .i64 fr.t, .int .i64 fr.a] 46)) w.heap.size fr.cs.toArray) := BoxT.new 46 w _
  have HB1 := hide (below_box w (.cells #[.int .i64 fr.k, .int .i64 fr.f, .int .i64 fr.t, .int .i64 fr.a] 46))
  have HBB := hide hb
  clear ho hb
  obtain ⟨fk, ff, ft, fa⟩ := fr
  unfold Pn.val
  simp only at HF HB1
  go_enter Try.func32, Try.ntmps32
  go_wp2_with fail
  go_loopg [6, 7, 10] (l.length + 1) (fun gh _ _ iv wr => ∃ t : Nat, iv = .int .i64 (t : Int) ∧ t ≤ l.length ∧ l.length + 1 ≤ gh + t ∧ Hid (∀ a s, a < t → l[a]? = some s → ¬ (s.k = fk ∧ s.f = ff ∧ s.t = ft)) ∧ Hid (Below w.heap.size w wr) ∧ Hid (BoxT 46 wr w.heap.size (Pn.cs ⟨fk, ff, ft, fa⟩).toArray))
  case atStart => exact ⟨0, rfl, by omega, by omega, (show ∀ a s, _ from fun a s ha => by omega), HB1, HF⟩
  case round =>
    obtain ⟨t, rfl, ht, hg, HI, GB, GF⟩ := hrel
    obtain ⟨go, rfl⟩ : ∃ go, gk = go + 1 := ⟨gk - 1, by omega⟩
    obtain ⟨c0, c1, c2, c3⟩ := box4 GF.out
    simp only at c0 c1 c2 c3
    by_cases hlt : t < l.length
    · obtain ⟨x, hx⟩ := get_of_lt hlt
      have bt : (t : Int) < (l.length : Int) := by omega
      obtain ⟨nb, no, rfl, nlt, e0, e1, e2, e3⟩ := (HL.out.below GB.out).pane hx
      have HX := hide hx
      have HBX := hide (below_box wr (.cells #[.int .i64 x.k, .int .i64 x.f, .int .i64 x.t, .int .i64 x.a] 46))
      have HNB : Hid (BoxT 46 (wr.alloc (.cells #[.int .i64 x.k, .int .i64 x.f, .int .i64 x.t, .int .i64 x.a] 46)) wr.heap.size x.cs.toArray) := BoxT.new 46 wr _
      have GF2 := hide (BoxT.below (t := 46) GF.out HBX.out)
      obtain ⟨f0, f1, f2, f3⟩ := box4 GF2.out
      obtain ⟨g0, g1, g2, g3⟩ := box4 HNB.out
      clear hx
      obtain ⟨xk, xf, xt, xa⟩ := x
      simp only at e0 e1 e2 e3 f0 f1 f2 f3 g0 g1 g2 g3 HBX
      by_cases h1 : xk = fk
      · subst h1
        by_cases h2 : xf = ff
        · by_cases h3 : xt = ft
          · subst h2 h3
            go_wp2_with fail
            have hb2 := GB.out.trans (HBX.out.mono GB.out.size)
            exact bodyPost_ret (v := .tuple #[.slice (some ⟨nb, no, none⟩) l.length cap, .int .i64 (t : Int)]) (by simp [results, Try.results32, go_sem]; try rfl) rfl ⟨_, l, t, _, rfl, HO.out.below hb2, grown_of_below hb2 _, fun g e => .inl e, HX.out, fun v => addSp_hit HX.out ⟨rfl, rfl, rfl⟩ HI.out, by omega⟩
          · subst h2
            go_wp2_with fail
            go_roundg go
            case rel =>
              refine ⟨t + 1, by go_num, by omega, by omega, (show ∀ a s, _ from fun a s ha hs => ?_), hide (GB.out.trans (HBX.out.mono GB.out.size)), GF2⟩
              by_cases e : a = t
              · subst e
                rw [HX.out] at hs
                cases hs
                intro hh
                exact h3 hh.2.2
              · exact HI.out a s (by omega) hs
            case measure => omega
        · go_wp2_with fail
          go_roundg go
          case rel =>
            refine ⟨t + 1, by go_num, by omega, by omega, (show ∀ a s, _ from fun a s ha hs => ?_), hide (GB.out.trans (HBX.out.mono GB.out.size)), GF2⟩
            by_cases e : a = t
            · subst e
              rw [HX.out] at hs
              cases hs
              intro hh
              exact h2 hh.2.1
            · exact HI.out a s (by omega) hs
          case measure => omega
      · go_wp2_with fail
        go_roundg go
        case rel =>
          refine ⟨t + 1, by go_num, by omega, by omega, (show ∀ a s, _ from fun a s ha hs => ?_), hide (GB.out.trans (HBX.out.mono GB.out.size)), GF2⟩
          by_cases e : a = t
          · subst e
            rw [HX.out] at hs
            cases hs
            intro hh
            exact h1 hh.1
          · exact HI.out a s (by omega) hs
        case measure => omega
    · have bt : ¬ (t : Int) < (l.length : Int) := by omega
      have HALL : Hid (∀ x ∈ l, ¬ (x.k = fk ∧ x.f = ff ∧ x.t = ft)) := (show ∀ x ∈ l, _ by
        intro x hx
        obtain ⟨a, ha⟩ := List.getElem?_of_mem hx
        exact HI.out a x (by have := lt_of_get ha; omega) ha)
      have hbx := below_box wr (.cells #[.int .i64 fk, .int .i64 ff, .int .i64 ft, .int .i64 fa] 46)
      have hb2 := GB.out.trans (hbx.mono GB.out.size)
      have HB2 := hide hb2
      have HO2 := hide (HO.out.below hb2)
      have HS2 := hide (Nat.le_trans HBB.out hb2.size)
      have HN : Hid (l.length ≤ 1000000) := (show _ ≤ _ by omega)
      clear hbx hb2 hn
      go_wp2_with (at_builtin; refine app_L Try.infoPn Try.underlying35 rfl (by decide) (by decide) Pn.cs_len Pn.cs_one rfl _ _ rfl base _ l rfl HO2.out _ _ (⟨fk, ff, ft, fa⟩ : Pn) rfl (new4 wr rfl ⟨fk, ff, ft, fa⟩) HN.out HS2.out ?_; intro v5 w5 h5 g5 k5)
      exact bodyPost_ret (v := .tuple #[v5, .int .i64 (l.length : Int)]) (by simp [results, Try.results32, go_sem]; try rfl) rfl ⟨_, l ++ [⟨fk, ff, ft, fa⟩], l.length, ⟨fk, ff, ft, fa⟩, rfl, h5, grownBy_trans (grown_of_below HB2.out _) g5, fun g e => (k5 g e).imp id (fun h => Nat.le_trans HB2.out.size h), by simp, fun v => addSp_miss HALL.out, by simp⟩
end Go.Proofs.Ytlikikiglicdlaa
