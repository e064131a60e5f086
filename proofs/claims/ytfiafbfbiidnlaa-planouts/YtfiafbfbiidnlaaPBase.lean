/-
  Tasks and channels as they lie; append onto a row of one's own; Group, Part, at, Keyed of package plan and of the document.
-/
import Derived.Test.YtfiafbfbiidnlaaJBuild
namespace Go.Proofs.Ytfiafbfbiidnlaa
open Go.RowKit

structure Tk where
  nd : Int
  pt : Int
structure Cn where
  fr : Int
  tg : Int
  inp : Int
def Tk.cs (t : Tk) : List Value := [.int .i64 t.nd, .int .i64 t.pt]
def Tk.val (t : Tk) : Value := .agg #[.int .i64 t.nd, .int .i64 t.pt]
def Cn.cs (c : Cn) : List Value := [.int .i64 c.fr, .int .i64 c.tg, .int .i64 c.inp]
def Cn.val (c : Cn) : Value := .agg #[.int .i64 c.fr, .int .i64 c.tg, .int .i64 c.inp]
theorem Tk.cs_len (t : Tk) : t.cs.length = 2 := rfl
theorem Cn.cs_len (c : Cn) : c.cs.length = 3 := rfl
theorem Tk.cs_one (n : Tk) : ∀ u ∈ n.cs, u.oneCell' = true := by
  intro u hu
  simp only [Tk.cs, List.mem_cons, List.not_mem_nil, or_false] at hu
  rcases hu with rfl | rfl <;> rfl
theorem Cn.cs_one (n : Cn) : ∀ u ∈ n.cs, u.oneCell' = true := by
  intro u hu
  simp only [Cn.cs, List.mem_cons, List.not_mem_nil, or_false] at hu
  rcases hu with rfl | rfl | rfl <;> rfl
theorem Try.info42' : (Try.prog.info? 42).map (fun i => (i.zero, i.size, i.bytes)) = some (some (.agg #[.int .i64 0, .int .i64 0]), 2, 16) := by kernel_rfl
theorem Try.info40' : (Try.prog.info? 40).map (fun i => (i.zero, i.size, i.bytes)) = some (some (.agg #[.int .i64 0, .int .i64 0, .int .i64 0]), 3, 24) := by kernel_rfl
/-- append of one thing onto a row of one's own. -/
theorem app_L {α : Type} {t sl sz by_ : Nat} {z : Value} {cs : α → List Value} (hinfo : (Try.prog.info? t).map (fun i => (i.zero, i.size, i.bytes)) = some (some z, sz, by_)) (hund : Try.prog.underlying sl = some (.slice t)) (hz : z.cells.size = sz) (hsz : 0 < sz) (hby : by_ ≤ 100)
    (hcs : ∀ x, (cs x).length = sz) (h1c : ∀ x, ∀ u ∈ cs x, u.oneCell' = true)
    {w : World} {ops : Array Oper} {rest : List Oper} {o : Oper} {a : Act} {Q : Exit → Act → World → Prop} (hgd : o.guard = none) (s x : Operand)
    (ho : o.op = .call { callee := .builtin .append, args := #[s, x], argTypes := #[sl, sl] }) (base : Nat) (v : Value) (l : List α) (hs : a.eval s = v) (hown : OwnL t sz cs base w v l)
    (ad : Addr) (c : Nat) (y : α) (hx : a.eval x = .slice (some ad) 1 c) (hnews : ∀ (j : Nat) (u : Value), (cs y)[j]? = some u → w.cell? (ad.add j) = some u) (hl : l.length ≤ 1000000) (hbase : base ≤ w.heap.size)
    (h : ∀ v' w', OwnL t sz cs base w' v' (l ++ [y]) → w.grownBy w' v.ownBlock → (∀ g, v'.ownBlock = some g → v.ownBlock = some g ∨ w.heap.size ≤ g) → wpList Try.prog ops Q rest (a.put o.dst v') w') : wpList Try.prog ops Q (o :: rest) a w := by
  obtain ⟨i0, hi, hz0, hz1, hz2⟩ := info_parts hinfo
  have hb2 : (l.length + 1) * by_ ≤ 140737488355328 := by
    have : (l.length + 1) * by_ ≤ 1000001 * 100 := Nat.mul_le_mul (by omega) hby
    omega
  refine wpList_append_own_at w hgd s x sl ho base t i0 z sz by_ hund hi hz0 hz1 hz2 hz hsz v l.length (l.flatMap cs) hs hown ad 1 c (cs y) hx (by rw [hcs]; omega) hnews (h1c y) (by unfold maxLen; omega) hb2 hbase ?_
  intro v' w' h2 h3 _ h5
  refine h v' w' ?_ h3 (fun g e => ?_)
  · show w'.ownsRow _ _ _ _ _ _
    rw [List.length_append, List.flatMap_append]; simpa using h2
  · rcases h5 with h5 | h5
    · exact .inl (h5 ▸ e)
    · rw [h5] at e; cases e; exact .inr (Nat.le_refl _)

/-- The group of a key. -/
def grp (key : Int) : Nat := ((key % 18446744073709551616).toNat * 11400714819323198485 % 18446744073709551616) / 1152921504606846976
theorem grp_lt (key : Int) : grp key < 16 := by unfold grp; omega
/-- The part of a group. -/
def prt (g par : Int) : Int := if g < 0 ∨ 16 ≤ g ∨ par < 1 ∨ 4 < par then 0 else g * par / 16

theorem tdiv_small {m : Int} (h0 : 0 ≤ m) (h1 : m ≤ 15 * 4) : wrap64 ((wrap64 m).tdiv 16) = m / 16 := by
  have : wrap64 m = m := by unfold wrap64; omega
  rw [this, Int.tdiv_eq_ediv_of_nonneg h0]
  unfold wrap64
  omega
theorem grp_eq (key : Int) : wrap64 (IntKind.u64.wrap (IntKind.u64.wrap key * 11400714819323198485) / 1152921504606846976) = (grp key : Int) := by
  have h1 : IntKind.u64.wrap key = ((key % 18446744073709551616).toNat : Int) := by
    have hb : IntKind.u64.bits = 64 := rfl
    have hs : IntKind.u64.signed = false := rfl
    simp only [IntKind.wrap, hb, hs, Bool.false_and, Bool.false_eq_true, if_false]
    omega
  have h2 : ∀ n : Nat, IntKind.u64.wrap ((n : Int) * 11400714819323198485) = ((n * 11400714819323198485 % 18446744073709551616 : Nat) : Int) := by
    intro n
    have hb : IntKind.u64.bits = 64 := rfl
    have hs : IntKind.u64.signed = false := rfl
    simp only [IntKind.wrap, hb, hs, Bool.false_and, Bool.false_eq_true, if_false]
    omega
  rw [h1, h2]
  have h3 := grp_lt key
  unfold grp at h3 ⊢
  generalize (key % 18446744073709551616).toNat * 11400714819323198485 % 18446744073709551616 = q at *
  have h4 : ((q : Int) / 1152921504606846976) = ((q / 1152921504606846976 : Nat) : Int) := by omega
  rw [h4]
  generalize q / 1152921504606846976 = r at *
  unfold wrap64
  omega
set_option maxHeartbeats 1000000 in
set_option maxRecDepth 100000 in
theorem Group_any (w : World) (key : Int) :
    Calls Try.prog 22 #[.int .i64 key] w fun e w' => e = .returned (.int .i64 (grp key)) ∧ w = w' := by
  have HG := hide (grp_eq key)
  go_enter Try.func22, Try.ntmps22
  go_wp2_with fail
  go_ret
  exact ⟨ret_int HG.out, rfl⟩
set_option maxHeartbeats 1000000 in
set_option maxRecDepth 100000 in
theorem RGroup_any (w : World) (key : Int) :
    Calls Try.prog 23 #[.int .i64 key] w fun e w' => e = .returned (.int .i64 (grp key)) ∧ w = w' := by
  have HG := hide (grp_eq key)
  go_enter Try.func23, Try.ntmps23
  go_wp2_with fail
  go_ret
  exact ⟨ret_int HG.out, rfl⟩
set_option maxHeartbeats 1000000 in
set_option maxRecDepth 100000 in
theorem Part_any (w : World) (g par : Int) :
    Calls Try.prog 24 #[.int .i64 g, .int .i64 par] w fun e w' => e = .returned (.int .i64 (prt g par)) ∧ w = w' := by
  obtain ⟨R, hR⟩ : ∃ R, prt g par = R := ⟨_, rfl⟩
  rw [hR]
  unfold prt at hR
  by_cases h1 : g < 0
  · rw [if_pos (by omega)] at hR
    subst hR
    go_enter Try.func24, Try.ntmps24
    go_wp2_with fail
    go_ret
    exact ⟨rfl, rfl⟩
  by_cases h2 : (16 : Int) ≤ g
  · rw [if_pos (by omega)] at hR
    subst hR
    go_enter Try.func24, Try.ntmps24
    go_wp2_with fail
    go_ret
    exact ⟨rfl, rfl⟩
  by_cases h3 : par < 1
  · rw [if_pos (by omega)] at hR
    subst hR
    go_enter Try.func24, Try.ntmps24
    go_wp2_with fail
    go_ret
    exact ⟨rfl, rfl⟩
  by_cases h4 : (4 : Int) < par
  · rw [if_pos (by omega)] at hR
    subst hR
    go_enter Try.func24, Try.ntmps24
    go_wp2_with fail
    go_ret
    exact ⟨rfl, rfl⟩
  rw [if_neg (by omega)] at hR
  have hm : 0 ≤ g * par ∧ g * par ≤ 15 * 4 := ⟨Int.mul_nonneg (by omega) (by omega), Int.mul_le_mul (by omega) (by omega) (by omega) (by omega)⟩
  have HR := hide hR
  have HM := hide hm
  clear hR hm
  go_enter Try.func24, Try.ntmps24
  go_wp2_with fail
  go_ret
  exact ⟨ret_int (by rw [← HR.out]; exact tdiv_small HM.out.1 HM.out.2), rfl⟩
set_option maxHeartbeats 1000000 in
set_option maxRecDepth 100000 in
theorem RPart_any (w : World) (g par : Int) :
    Calls Try.prog 25 #[.int .i64 g, .int .i64 par] w fun e w' => e = .returned (.int .i64 (prt g par)) ∧ w = w' := by
  obtain ⟨R, hR⟩ : ∃ R, prt g par = R := ⟨_, rfl⟩
  rw [hR]
  unfold prt at hR
  by_cases h1 : g < 0
  · rw [if_pos (by omega)] at hR
    subst hR
    go_enter Try.func25, Try.ntmps25
    go_wp2_with fail
    go_ret
    exact ⟨rfl, rfl⟩
  by_cases h2 : (16 : Int) ≤ g
  · rw [if_pos (by omega)] at hR
    subst hR
    go_enter Try.func25, Try.ntmps25
    go_wp2_with fail
    go_ret
    exact ⟨rfl, rfl⟩
  by_cases h3 : par < 1
  · rw [if_pos (by omega)] at hR
    subst hR
    go_enter Try.func25, Try.ntmps25
    go_wp2_with fail
    go_ret
    exact ⟨rfl, rfl⟩
  by_cases h4 : (4 : Int) < par
  · rw [if_pos (by omega)] at hR
    subst hR
    go_enter Try.func25, Try.ntmps25
    go_wp2_with fail
    go_ret
    exact ⟨rfl, rfl⟩
  rw [if_neg (by omega)] at hR
  have hm : 0 ≤ g * par ∧ g * par ≤ 15 * 4 := ⟨Int.mul_nonneg (by omega) (by omega), Int.mul_le_mul (by omega) (by omega) (by omega) (by omega)⟩
  have HR := hide hR
  have HM := hide hm
  clear hR hm
  go_enter Try.func25, Try.ntmps25
  go_wp2_with fail
  go_ret
  exact ⟨ret_int (by rw [← HR.out]; exact tdiv_small HM.out.1 HM.out.2), rfl⟩
def ndAt (ns : List Nd) (i : Int) : Nd := if 0 ≤ i ∧ i < ns.length then ns.getD i.toNat nd0 else nd0
theorem ndAt_in {ns : List Nd} {i : Nat} {n : Nd} (h : ns[i]? = some n) : ndAt ns (i : Int) = n := by
  have hl := lt_of_get h
  unfold ndAt
  rw [if_pos (by omega)]
  simp [h]
theorem ndAt_out {ns : List Nd} {i : Int} (h : i < 0 ∨ (ns.length : Int) ≤ i) : ndAt ns i = nd0 := if_neg (by omega)
set_option maxHeartbeats 1000000 in
set_option maxRecDepth 100000 in
theorem atN_any {w : World} {v : Value} {ns : List Nd} (hj : JobIn w.heap.size w v ns) (i : Int) :
    Calls Try.prog 35 #[v, .int .i64 i] w fun e w' => e = .returned (ndAt ns i).val ∧ Below w.heap.size w w' := by
  obtain ⟨na, ncp, rfl⟩ := hj.shape
  by_cases h1 : i < 0
  · rw [ndAt_out (.inl h1)]
    go_enter Try.func35, Try.ntmps35
    go_wp2_with fail
    exact bodyPost_ret (v := nd0.val) (by simp [results, Try.results35, go_sem]; rfl) rfl ⟨rfl, ((Below.refl _ _).alloc (Nat.le_refl _) _).alloc (by simp) _⟩
  by_cases h2 : (ns.length : Int) ≤ i
  · rw [ndAt_out (.inr h2)]
    go_enter Try.func35, Try.ntmps35
    go_wp2_with fail
    exact bodyPost_ret (v := nd0.val) (by simp [results, Try.results35, go_sem]; rfl) rfl ⟨rfl, ((Below.refl _ _).alloc (Nat.le_refl _) _).alloc (by simp) _⟩
  obtain ⟨k, rfl⟩ : ∃ k : Nat, i = (k : Int) := ⟨i.toNat, by omega⟩
  obtain ⟨n, hn⟩ := get_of_lt (l := ns) (i := k) (by omega)
  rw [ndAt_in hn]
  obtain ⟨nb, no, rfl, nlt, d0, d1, d2, d3, d4, d5, d6, d7, d8, d9⟩ := hj.at_ hn
  have HJ := hide hj
  clear hj hn
  go_enter Try.func35, Try.ntmps35
  go_wp2_with fail
  exact bodyPost_ret (v := n.val) (by simp [results, Try.results35, go_sem]; rfl) rfl ⟨rfl, (Below.refl _ _).alloc (Nat.le_refl _) _⟩
theorem seg_tk {B : Nat} {w : World} {ao : Option Addr} {m cap : Nat} {l : List Tk} (h : LSeg 2 Tk.cs B w (.slice ao m cap) l) {k : Nat} {x : Tk} (hx : l[k]? = some x) : ∃ b o, ao = some ⟨b, o, none⟩ ∧ b < B ∧ w.cell? ⟨b, o + k * 2, none⟩ = some (.int .i64 x.nd) ∧ w.cell? ⟨b, o + k * 2 + 1, none⟩ = some (.int .i64 x.pt) := by
  obtain ⟨ao', cap', e, h2, h4⟩ := h
  cases e
  rcases h4 with h4 | ⟨b, off, h5, h6, h7⟩
  · subst h4; simp at hx
  · exact ⟨b, off, h5, h6, h7 k x hx 0 _ rfl, h7 k x hx 1 _ rfl⟩
theorem seg_cn {B : Nat} {w : World} {ao : Option Addr} {m cap : Nat} {l : List Cn} (h : LSeg 3 Cn.cs B w (.slice ao m cap) l) {k : Nat} {x : Cn} (hx : l[k]? = some x) : ∃ b o, ao = some ⟨b, o, none⟩ ∧ b < B ∧ w.cell? ⟨b, o + k * 3, none⟩ = some (.int .i64 x.fr) ∧ w.cell? ⟨b, o + k * 3 + 1, none⟩ = some (.int .i64 x.tg) ∧ w.cell? ⟨b, o + k * 3 + 2, none⟩ = some (.int .i64 x.inp) := by
  obtain ⟨ao', cap', e, h2, h4⟩ := h
  cases e
  rcases h4 with h4 | ⟨b, off, h5, h6, h7⟩
  · subst h4; simp at hx
  · exact ⟨b, off, h5, h6, h7 k x hx 0 _ rfl, h7 k x hx 1 _ rfl, h7 k x hx 2 _ rfl⟩
def tk0 : Tk := ⟨0, 0⟩
def tkAt (ts : List Tk) (i : Int) : Tk := if 0 ≤ i ∧ i < ts.length then ts.getD i.toNat tk0 else tk0
theorem tkAt_in {ns : List Tk} {i : Nat} {n : Tk} (h : ns[i]? = some n) : tkAt ns (i : Int) = n := by
  have hl := lt_of_get h
  unfold tkAt
  rw [if_pos (by omega)]
  simp [h]
theorem tkAt_out {ns : List Tk} {i : Int} (h : i < 0 ∨ (ns.length : Int) ≤ i) : tkAt ns i = tk0 := if_neg (by omega)
set_option maxHeartbeats 1000000 in
set_option maxRecDepth 100000 in
theorem atT_any {w : World} {v : Value} {ts : List Tk} (ht : LSeg 2 Tk.cs w.heap.size w v ts) (i : Int) :
    Calls Try.prog 36 #[v, .int .i64 i] w fun e w' => e = .returned (tkAt ts i).val ∧ Below w.heap.size w w' := by
  obtain ⟨na, ncp, rfl⟩ := ht.shape
  by_cases h1 : i < 0
  · rw [tkAt_out (.inl h1)]
    go_enter Try.func36, Try.ntmps36
    go_wp2_with fail
    exact bodyPost_ret (v := tk0.val) (by simp [results, Try.results36, go_sem]; rfl) rfl ⟨rfl, ((Below.refl _ _).alloc (Nat.le_refl _) _).alloc (by simp) _⟩
  by_cases h2 : (ts.length : Int) ≤ i
  · rw [tkAt_out (.inr h2)]
    go_enter Try.func36, Try.ntmps36
    go_wp2_with fail
    exact bodyPost_ret (v := tk0.val) (by simp [results, Try.results36, go_sem]; rfl) rfl ⟨rfl, ((Below.refl _ _).alloc (Nat.le_refl _) _).alloc (by simp) _⟩
  obtain ⟨k, rfl⟩ : ∃ k : Nat, i = (k : Int) := ⟨i.toNat, by omega⟩
  obtain ⟨n, hn⟩ := get_of_lt (l := ts) (i := k) (by omega)
  rw [tkAt_in hn]
  obtain ⟨nb, no, rfl, nlt, d0, d1⟩ := seg_tk ht hn
  have HJ := hide ht
  clear ht hn
  go_enter Try.func36, Try.ntmps36
  go_wp2_with fail
  exact bodyPost_ret (v := n.val) (by simp [results, Try.results36, go_sem]; rfl) rfl ⟨rfl, (Below.refl _ _).alloc (Nat.le_refl _) _⟩

/-- Is the node keyed? -/
def kyd (ns : List Nd) (i : Int) : Bool := decide ((ndAt ns i).kind = 6) || decide ((ndAt ns i).kind = 7)
theorem below_box (w : World) (o : Obj) : Below w.heap.size w (w.alloc o) := (Below.refl _ _).alloc (Nat.le_refl _) _
theorem nd_f0 (c0 c1 c2 c3 c4 c5 c6 c7 c8 c9 : Value) (W : World) : (Instr.field 54 (.agg #[c0, c1, c2, c3, c4, c5, c6, c7, c8, c9]) 0).run Try.prog W = .ok c0 W := by kernel_rfl
theorem nd_f2 (c0 c1 c2 c3 c4 c5 c6 c7 c8 c9 : Value) (W : World) : (Instr.field 54 (.agg #[c0, c1, c2, c3, c4, c5, c6, c7, c8, c9]) 2).run Try.prog W = .ok c2 W := by kernel_rfl
set_option maxHeartbeats 1000000 in
set_option maxRecDepth 100000 in
theorem Keyed_any {w : World} {v : Value} {ns : List Nd} (hj : JobIn w.heap.size w v ns) (i : Int) :
    Calls Try.prog 18 #[.agg #[v], .int .i64 i] w fun e w' => e = .returned (.bool (kyd ns i)) ∧ Below w.heap.size w w' := by
  obtain ⟨na, ncp, rfl⟩ := hj.shape
  have HB := hide (below_box w (.cells #[.slice na ns.length ncp] 24))
  have HA := hide (atN_any ((hj.below HB.out).mono HB.out.size) i)
  unfold Nd.val at HA
  obtain ⟨R, hR⟩ : ∃ R, kyd ns i = R := ⟨_, rfl⟩
  rw [hR]
  unfold kyd at hR
  generalize ndAt ns i = n at *
  obtain ⟨kd, ia, icp, ins, par, ⟨eo, en, ea, ec, el⟩, ag, wk, wz, wl⟩ := n
  simp only at HA hR
  clear hj
  have f0 := nd_f0 (.int .i64 kd) (.slice ia ins.length icp) (.int .i64 par) (.int .i64 eo) (.int .i64 en) (.slice ea el.length ec) (.int .i64 ag) (.int .i64 wk) (.int .i64 wz) (.int .i64 wl)
  by_cases h6 : kd = 6
  · subst h6
    have hR' : true = R := by rw [← hR]; rfl
    subst hR'
    clear hR
    go_enter Try.func18, Try.ntmps18
    go_wp2_with (go_at_call 35; refine HA.out.mono ?_; rintro e w1 ⟨rfl, b1⟩)
    go_ret
    exact ⟨rfl, HB.out.trans (b1.mono HB.out.size)⟩
  by_cases h7 : kd = 7
  · subst h7
    have hR' : true = R := by rw [← hR]; rfl
    subst hR'
    clear hR
    go_enter Try.func18, Try.ntmps18
    go_wp2_with (go_at_call 35; refine HA.out.mono ?_; rintro e w1 ⟨rfl, b1⟩)
    go_ret
    exact ⟨rfl, HB.out.trans (b1.mono HB.out.size)⟩
  have hR' : false = R := by rw [← hR]; simp [h6, h7]
  subst hR'
  have k6 : (kd == 6) = false := by simpa using h6
  have k7 : (kd == 7) = false := by simpa using h7
  clear hR h6 h7
  go_enter Try.func18, Try.ntmps18
  go_wp2_with (go_at_call 35; refine HA.out.mono ?_; rintro e w1 ⟨rfl, b1⟩)
  go_ret
  exact ⟨rfl, HB.out.trans (b1.mono HB.out.size)⟩
end Go.Proofs.Ytfiafbfbiidnlaa
