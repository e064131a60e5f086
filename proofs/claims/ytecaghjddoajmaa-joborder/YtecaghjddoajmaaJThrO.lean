/-
  soundThroughout, whatever the map is asked: it answers, and turns nothing.
-/
import Derived.Test.YtecaghjddoajmaaJMapO
import Derived.Test.YtecaghjddoajmaaJExCount
import Derived.Test.YtecaghjddoajmaaJSet
import Derived.OwnWalk
namespace Go.Proofs.Ytecaghjddoajmaa
open Go.RowKit

def Ex.xc (x : Ex) : List Value := [.int .i64 x.op, .int .i64 x.n, .slice x.a x.l.length x.c]
theorem Ex.xc_len (x : Ex) : x.xc.length = 3 := rfl
theorem Ex.xc_one (n : Ex) : ∀ u ∈ n.xc, u.oneCell' = true := by
  intro u hu
  simp only [Ex.xc, List.mem_cons, List.not_mem_nil, or_false] at hu
  rcases hu with rfl | rfl | rfl <;> rfl
theorem size_pos (e : Ex) : 1 ≤ size e := by obtain ⟨op, n, a, c, l⟩ := e; rw [size_mk]; omega
def sz (l : List Ex) : Nat := (l.map size).sum
theorem sz_snoc (l : List Ex) (x : Ex) : sz (l ++ [x]) = sz l + size x := by simp [sz]
theorem sz_len (l : List Ex) : l.length ≤ sz l := by
  induction l with
  | nil => simp [sz]
  | cons x r ih => have := size_pos x; simp only [sz, List.map_cons, List.sum_cons, List.length_cons] at *; omega
theorem sz_take {l : List Ex} {j : Nat} {z : Ex} (h : l[j]? = some z) : sz (l.take (j + 1)) = sz (l.take j) + size z := by
  rw [List.take_add_one, h]
  exact sz_snoc _ _
/-- No operand's place is frozen. -/
def Thaw (w : World) (e : Ex) : Prop := ∀ x ∈ e.sub, ∀ (i : Nat) (z : Ex) (b o : Nat), x.l[i]? = some z → x.a = some ⟨b, o, none⟩ → w.frozen? ⟨b, o + i * 3, none⟩ = false
theorem plO_of {w : World} {b o : Nat} {v : Value} (h : w.cell? ⟨b, o, none⟩ = some v) (hf : w.frozen? ⟨b, o, none⟩ = false) : PlO w.heap.size w ⟨b, o, none⟩ := by
  refine ⟨?_, hf, cell_lt h⟩
  unfold World.cell? at h
  cases hb : w.heap[b]? with
  | none => simp [hb] at h
  | some ob =>
    cases ob with
    | cells c t r => exact ⟨c, t, r, rfl⟩
    | _ => simp [hb] at h
theorem Try.info45' : (Try.prog.info? 45).map (fun i => (i.zero, i.size, i.bytes)) = some (some (.agg #[.int .i64 0, .int .i64 0, .slice none 0 0]), 3, 40) := by kernel_rfl
theorem app_x {w : World} {ops : Array Oper} {rest : List Oper} {o : Oper} {a : Act} {Q : Exit → Act → World → Prop} (hgd : o.guard = none) (s x : Operand)
    (ho : o.op = .call { callee := .builtin .append, args := #[s, x], argTypes := #[43, 43] }) (base : Nat) (v : Value) (l : List Ex) (hs : a.eval s = v) (hown : OwnL 45 3 Ex.xc base w v l)
    (ad : Addr) (c : Nat) (y : Ex) (hx : a.eval x = .slice (some ad) 1 c) (hnews : ∀ (j : Nat) (u : Value), y.xc[j]? = some u → w.cell? (ad.add j) = some u) (hl : l.length ≤ 1000) (hbase : base ≤ w.heap.size)
    (h : ∀ v' w', OwnL 45 3 Ex.xc base w' v' (l ++ [y]) → w.grownBy w' v.ownBlock → (∀ g, v'.ownBlock = some g → v.ownBlock = some g ∨ w.heap.size ≤ g) → wpList Try.prog ops Q rest (a.put o.dst v') w') : wpList Try.prog ops Q (o :: rest) a w := by
  obtain ⟨i0, hi, hz0, hz1, hz2⟩ := info_parts Try.info45'
  refine wpList_append_own_at w hgd s x 43 ho base 45 i0 _ 3 40 (by kernel_rfl) hi hz0 hz1 hz2 rfl (by omega) v l.length (l.flatMap Ex.xc) hs hown ad 1 c y.xc hx rfl hnews y.xc_one (by unfold maxLen; omega) (by omega) hbase ?_
  intro v' w' h2 h3 _ h5
  refine h v' w' ?_ h3 (fun g e => ?_)
  · show w'.ownsRow _ _ _ _ _ _
    rw [List.length_append, List.flatMap_append]; simpa using h2
  · rcases h5 with h5 | h5
    · exact .inl (h5 ▸ e)
    · rw [h5] at e; cases e; exact .inr (Nat.le_refl _)
/-- The row todo and the map seen, in what the call has made. -/
structure TSO (w0 w : World) (todo : List Ex) (v : Value) : Prop where
  bel : Below w0.heap.size w0 w
  pm : PMO w0.heap.size w (w0.heap.size + 1)
  row : OwnL 45 3 Ex.xc (w0.heap.size + 2) w v todo
theorem PMO.below {B : Nat} {w w' : World} {mb : Nat} (h : PMO B w mb) (hb : Below w.heap.size w w') : PMO B w' mb := by
  obtain ⟨es, clock, h1, h2⟩ := h
  refine ⟨es, clock, (hb.block _ (Array.getElem?_eq_some_iff.1 h1).1).trans h1, fun x hx => ?_⟩
  obtain ⟨h3, q, h4, h5⟩ := h2 x hx
  exact ⟨h3, q, h4, h5.below hb⟩
theorem TSO.below {w0 w w' : World} {todo : List Ex} {v : Value} (h : TSO w0 w todo v) (hb : Below w.heap.size w w') : TSO w0 w' todo v :=
  ⟨h.bel.trans (hb.mono h.bel.size), h.pm.below hb, h.row.below hb⟩
/-- A place is put into the map. -/
theorem TSO.put {w0 w : World} {todo : List Ex} {v : Value} (h : TSO w0 w todo v) {p : Addr} (hp : PlO w0.heap.size w p) :
    ∃ w', (Instr.mapUpdate 102 (.map (some (w0.heap.size + 1))) (.pointer (some p)) (.agg #[])).run Try.prog w = .ok () w' ∧ TSO w0 w' todo v ∧ w'.heap.size = w.heap.size ∧ ∀ k, k ≠ w0.heap.size + 1 → w'.heap[k]? = w.heap[k]? := by
  obtain ⟨n, o, h1, h2⟩ := h.pm.put hp
  refine ⟨_, h1, ⟨⟨h.bel.os, h.bel.tape, h.bel.output, ?_, ?_⟩, h2, h.row.back (fun g e => ?_)⟩, by simp, fun k hk => by simp only [Array.getElem?_setIfInBounds]; rw [if_neg (by omega)]⟩
  · simpa using h.bel.size
  · intro k hk
    rw [← h.bel.block k hk]
    simp only [Array.getElem?_setIfInBounds]
    rw [if_neg (by omega)]
  · have := h.row.at g e
    simp only [Array.getElem?_setIfInBounds]
    rw [if_neg (by omega)]
theorem TSO.last {w0 w : World} {todo : List Ex} {x : Ex} {v : Value} (h : TSO w0 w (todo ++ [x]) v) :
    ∃ g cap, v = .slice (some ⟨g, 0, none⟩) (todo.length + 1) cap ∧ todo.length + 1 ≤ cap ∧ cap ≤ maxLen ∧ w0.heap.size + 2 ≤ g ∧ g < w.heap.size ∧ w.cell? ⟨g, todo.length * 3, none⟩ = some (.int .i64 x.op) ∧ w.cell? ⟨g, todo.length * 3 + 1, none⟩ = some (.int .i64 x.n) ∧ w.cell? ⟨g, todo.length * 3 + 2, none⟩ = some (.slice x.a x.l.length x.c) ∧ TSO w0 w todo (.slice (some ⟨g, 0, none⟩) todo.length cap) := by
  obtain ⟨g, cap, cur, h1, h2, h3, h4, h5, h6, h7⟩ := h.row.read Ex.xc_len (by simp)
  rw [List.length_append, List.length_singleton] at h1 h4
  have hx : (todo ++ [x])[todo.length]? = some x := by simp
  refine ⟨g, cap, h1, h4, h5, h2, h3.lt, ?_, ?_, ?_, h.bel, h.pm, OwnL.mkA Ex.xc_len (by decide) h2 h3 (by omega) h5 h6 (fun i y j u hy hu => h7 i y j u (by rw [List.getElem?_append_left (lt_of_get hy)]; exact hy) hu)⟩
  · rw [h3.cellAt]; exact h7 _ x 0 _ hx rfl
  · rw [h3.cellAt]; exact h7 _ x 1 _ hx rfl
  · rw [h3.cellAt]; exact h7 _ x 2 _ hx rfl
set_option maxHeartbeats 4000000 in
set_option maxRecDepth 100000 in
theorem thr_open (e : Ex) (w : World) (hin : In w e) (hth : Thaw w e) (hsz : size e ≤ 900) :
    Calls Try.prog 58 #[e.val] w fun r w' => ∃ b : Nat, r = .returned (.bool (decide (b = 1))) ∧ Below w.heap.size w w' := by
  have HIN := hide hin
  have HTH := hide hth
  have HSZ := hide hsz
  clear hin hth hsz
  have hmk : (Instr.makeMap 102 none).run Try.prog (w.alloc (.cells #[.int .i64 e.op, .int .i64 e.n, .slice e.a e.l.length e.c] 45)) = .ok (.map (some (w.heap.size + 1))) ((w.alloc (.cells #[.int .i64 e.op, .int .i64 e.n, .slice e.a e.l.length e.c] 45)).alloc (.map #[] 0)) := by
    rw [run_makeMap]; simp
  have HT : Hid (TSO w (((w.alloc (.cells #[.int .i64 e.op, .int .i64 e.n, .slice e.a e.l.length e.c] 45)).alloc (.map #[] 0)).alloc (.cells #[.int .i64 e.op, .int .i64 e.n, .slice e.a e.l.length e.c] 45)) [e] (.slice (some ⟨w.heap.size + 2, 0, none⟩) 1 1)) := by
    have b1 := below1 w (.cells #[.int .i64 e.op, .int .i64 e.n, .slice e.a e.l.length e.c] 45)
    have b2 := below1 (w.alloc (.cells #[.int .i64 e.op, .int .i64 e.n, .slice e.a e.l.length e.c] 45)) (.map #[] 0)
    have b3 := below1 ((w.alloc (.cells #[.int .i64 e.op, .int .i64 e.n, .slice e.a e.l.length e.c] 45)).alloc (.map #[] 0)) (.cells #[.int .i64 e.op, .int .i64 e.n, .slice e.a e.l.length e.c] 45)
    have b12 := b1.trans (b2.mono b1.size)
    refine ⟨b12.trans (b3.mono b12.size), ⟨#[], 0, ?_, fun x hx => by cases hx⟩, OwnL.mk1 (Ex.xc_len e) (Nat.le_refl _) (BoxT.new_at (by simp))⟩
    rw [b3.block _ (by simp)]
    have := heap_alloc_new (w.alloc (.cells #[.int .i64 e.op, .int .i64 e.n, .slice e.a e.l.length e.c] 45)) (.map #[] 0)
    simpa using this
  have hval : e.val = .agg #[.int .i64 e.op, .int .i64 e.n, .slice e.a e.l.length e.c] := rfl
  rw [hval]
  clear hval
  go_enter Try.func58, Try.ntmps58
  go_wp2_with fail
  go_loopg [4] (size e + 1) (fun g v wr => ∃ todo, Hid (TSO w wr todo v) ∧ Hid (∀ x ∈ todo, x ∈ e.sub) ∧ sz todo + 1 ≤ g ∧ sz todo ≤ 900)
  case atStart => exact ⟨[e], HT, fun x hx => by rw [List.mem_singleton.1 hx]; exact e.sub_self, by simp [sz], by have := HSZ.out; simp [sz]; omega⟩
  case round =>
    obtain ⟨todo, HTS, HSB, hg, hg9⟩ := hrel
    obtain ⟨wo, rfl⟩ : ∃ wo, wo = wr := ⟨wr, rfl⟩
    obtain ⟨go, rfl⟩ : ∃ go, gk = go + 1 := ⟨gk - 1, by omega⟩
    rcases List.eq_nil_or_concat todo with rfl | ⟨t', x, htx⟩
    · obtain ⟨ao, cap, rfl⟩ := HTS.out.row.shape
      go_wp2
      go_ret
      exact ⟨1, rfl, HTS.out.bel⟩
    · rw [List.concat_eq_append] at htx
      subst htx
      obtain ⟨g, cap, rfl, hc1, hc2, hg2, hgl, c0, c1, c2, hts⟩ := HTS.out.last
      have HX := hide (HSB.out x (by simp))
      have HSB2 : Hid (∀ y ∈ t', y ∈ e.sub) := fun y hy => HSB.out y (by simp [hy])
      have HT2 := hide hts
      rw [sz_snoc] at hg hg9
      have hlx := (HIN.out.sub HX.out).self.len
      have htl := sz_len t'
      clear HTS hts HSB
      have hb1 := below1 wo (.cells #[.int .i64 x.op, .int .i64 x.n, .slice x.a x.l.length x.c] 45)
      have HB1 := hide hb1
      have HT3 := hide (HT2.out.below hb1)
      have X3 := hide (BoxT.new 45 wo #[.int .i64 x.op, .int .i64 x.n, .slice x.a x.l.length x.c])
      clear hb1
      cases hs : snd1 x.op x.n x.l.length
      · have HS := hide hs
        clear hs
        go_wp2_with (go_at_call 60; refine (sound_any _ _ _ _ _ _).mono ?_; rw [HS.out]; rintro r w1 ⟨rfl, hb2⟩)
        go_ret
        exact ⟨0, rfl, (HT3.out.below hb2).bel⟩
      · have HS := hide hs
        clear hs
        have hmb : w.heap.size + 1 ≠ wo.heap.size := by
          obtain ⟨es, clock, h1, _⟩ := HT2.out.pm
          have := (Array.getElem?_eq_some_iff.1 h1).1
          omega
        go_wp2_with (go_at_call 60; refine (sound_any _ _ _ _ _ _).mono ?_; rw [HS.out]; rintro r w2 ⟨rfl, hb2⟩; have HT4 := hide (HT3.out.below hb2); have X4 := hide (X3.out.below hb2); have hc4 : w2.cell? ⟨wo.heap.size, 2, none⟩ = some (.slice x.a x.l.length x.c) := (by rw [X4.out.cellAt]; rfl); clear hb2)
        clear c0 c1 c2 hc4
        go_loopg [4, 33] (x.l.length + 1) (fun g' v iv wx => ∃ (j : Nat) (td : List Ex), iv = .int .i64 (j : Int) ∧ j ≤ x.l.length ∧ x.l.length + 1 ≤ g' + j ∧ Hid (TSO w wx td v) ∧ Hid (BoxT 45 wx wo.heap.size #[.int .i64 x.op, .int .i64 x.n, .slice x.a x.l.length x.c]) ∧ Hid (v.ownBlock ≠ some wo.heap.size) ∧ Hid (∀ y ∈ td, y ∈ e.sub) ∧ sz td ≤ sz t' + sz (x.l.take j))
        case atStart => exact ⟨0, t', rfl, by omega, by omega, HT4, X4, (fun h => by simp [Value.ownBlock] at h; omega), HSB2, by simp [sz]⟩
        case round =>
          obtain ⟨j, td, rfl, hj, hgj, HT5, X5, HO5, HS5, hm5⟩ := hrel
          obtain ⟨gi, rfl⟩ : ∃ gi, gk = gi + 1 := ⟨gk - 1, by omega⟩
          obtain ⟨ao, acap, rfl⟩ := HT5.out.row.shape
          have hc5 : wr.cell? ⟨wo.heap.size, 2, none⟩ = some (.slice x.a x.l.length x.c) := by rw [X5.out.cellAt]; rfl
          by_cases hlt : j < x.l.length
          · obtain ⟨z, hz⟩ := get_of_lt hlt
            have bj : (j : Int) < (x.l.length : Int) := by omega
            obtain ⟨b, o, ha, e0, e1, e2⟩ := (HIN.out.sub HX.out).self.at_ j z hz
            have hPw : PlO w.heap.size w ⟨b, o + j * 3, none⟩ := plO_of e0 (HTH.out x HX.out j z b o hz ha)
            have hPl := hPw.below HT5.out.bel
            obtain ⟨bb, n, hlk⟩ := HT5.out.pm.look hPl
            have bu : Below wr.heap.size wr ((wr.drewN n).alloc (.cells #[] 104)) := (below_drewN (Below.refl _ _) n).alloc (Nat.le_refl _) _
            have HT6 := hide (HT5.out.below bu)
            have X6 := hide (X5.out.below bu)
            have hPl6 := hPl.below bu
            have hst := sz_take hz
            rw [ha] at hc5
            by_cases hbb : bb = 1
            · rw [decide_eq_true hbb] at hlk
              clear ha hPw hPl hPl6 bu hz e0 e1 e2 hbb
              go_wp2_with fail
              go_roundg gi
              case rel => exact ⟨j + 1, td, by go_num, by omega, by omega, HT6, X6, HO5, HS5, by omega⟩
              case measure => omega
            · rw [decide_eq_false hbb] at hlk
              obtain ⟨w3, hput, hT7, hsz7, hoth⟩ := HT6.out.put hPl6
              have X7 : Hid (BoxT 45 w3 wo.heap.size #[.int .i64 x.op, .int .i64 x.n, .slice x.a x.l.length x.c]) := (hoth _ (Ne.symm hmb)).trans X6.out
              have hlb := cell_lt e0
              have c0' := (hT7.bel.cell (p := ⟨b, o + j * 3, none⟩) hlb).trans e0
              have c1' := (hT7.bel.cell (p := ⟨b, o + j * 3 + 1, none⟩) hlb).trans e1
              have c2' := (hT7.bel.cell (p := ⟨b, o + j * 3 + 2, none⟩) hlb).trans e2
              have hbz := below1 w3 (.cells #[.int .i64 z.op, .int .i64 z.n, .slice z.a z.l.length z.c] 45)
              have HT8 := hide (hT7.below hbz)
              have X8 := hide (X7.out.below hbz)
              have HN : Hid (∀ (i : Nat) (u : Value), z.xc[i]? = some u → (w3.alloc (.cells #[.int .i64 z.op, .int .i64 z.n, .slice z.a z.l.length z.c] 45)).cell? ((⟨w3.heap.size, 0, none⟩ : Addr).add i) = some u) := fun i u hi => by
                rw [add_plain2, Nat.zero_add, (BoxT.new 45 w3 _).cellAt]
                simpa [Ex.xc] using hi
              have hsx : size x = 1 + sz x.l := by obtain ⟨op, m, a, c, l⟩ := x; exact size_mk _ _ _ _ _
              have hsl : sz (x.l.take (j + 1)) ≤ sz x.l := by
                have : sz x.l = sz (x.l.take (j + 1)) + sz (x.l.drop (j + 1)) := by
                  unfold sz
                  rw [← List.sum_append, ← List.map_append, List.take_append_drop]
                omega
              have hzl := size_pos z
              have htd := sz_len td
              have htl9 : td.length ≤ 1000 := by omega
              have HBZ : Hid (w.heap.size + 2 ≤ (w3.alloc (.cells #[.int .i64 z.op, .int .i64 z.n, .slice z.a z.l.length z.c] 45)).heap.size) := (show _ ≤ _ by
                obtain ⟨es, clock, h1, _⟩ := hT7.pm
                have := (Array.getElem?_eq_some_iff.1 h1).1
                simp; omega)
              have HSZ9 : Hid (sz (td ++ [z]) ≤ sz t' + sz (x.l.take (j + 1))) := (show _ ≤ _ by rw [sz_snoc]; omega)
              have HS9 : Hid (∀ y ∈ td ++ [z], y ∈ e.sub) := fun y hy => by
                rcases List.mem_append.1 hy with hy | hy
                · exact HS5.out y hy
                · rw [List.mem_singleton.1 hy]
                  exact Ex.sub_trans e x HX.out z (Ex.sub_kid (List.mem_of_getElem? hz) z z.sub_self)
              clear ha hPw hPl hPl6 bu hz e0 e1 e2 hbb hT7 hoth hbz hlb hst hsx hsl hzl htd hsz7 HT6 X6 X7
              go_wp2_with (at_builtin; refine app_x rfl _ _ rfl (w.heap.size + 2) (.slice ao td.length acap) td rfl HT8.out.row ⟨w3.heap.size, 0, none⟩ 1 z rfl HN.out htl9 HBZ.out ?_; intro v9 w9 h9 g9 n9)
              go_roundg gi
              case rel =>
                have hob : ∀ k, k < w.heap.size + 2 → some k ≠ (Value.slice ao td.length acap).ownBlock := fun k hk e' => by
                  have := HT8.out.row.at k e'.symm
                  omega
                have hxl := X8.out.lt
                refine ⟨j + 1, td ++ [z], by go_num, by omega, by omega, ⟨⟨g9.os.trans HT8.out.bel.os, g9.tape.trans HT8.out.bel.tape, g9.output.trans HT8.out.bel.output, Nat.le_trans HT8.out.bel.size g9.size, fun k hk => ?_⟩, ?_, h9⟩, X8.out.grownO g9 (Ne.symm HO5.out), (fun e' => ?_), HS9, HSZ9.out⟩
                · exact (g9.block k (Nat.lt_of_lt_of_le hk HT8.out.bel.size) (hob k (by omega))).trans (HT8.out.bel.block k hk)
                · obtain ⟨es, clock, h1, h2⟩ := HT8.out.pm
                  refine ⟨es, clock, (g9.block _ (Array.getElem?_eq_some_iff.1 h1).1 (hob _ (by omega))).trans h1, fun y hy => ?_⟩
                  obtain ⟨h3, q, h4, ⟨cc, tt, rr, h5⟩, h6, h7⟩ := h2 y hy
                  have he := g9.block q.block (Array.getElem?_eq_some_iff.1 h5).1 (hob _ (by omega))
                  refine ⟨h3, q, h4, ⟨cc, tt, rr, he.trans h5⟩, ?_, h7⟩
                  unfold World.frozen? at h6 ⊢
                  rw [he]; exact h6
                · rcases n9 _ e' with h | h
                  · exact HO5.out h
                  · omega
              case measure => omega
          · have bj : ¬ (j : Int) < (x.l.length : Int) := by omega
            have hjl : x.l.take j = x.l := List.take_of_length_le (by omega)
            rw [hjl] at hm5
            have hsx : size x = 1 + sz x.l := by obtain ⟨op, m, a, c, l⟩ := x; exact size_mk _ _ _ _ _
            have hq1 : sz td + 1 ≤ go := by omega
            have hq2 : sz td ≤ 900 := by omega
            clear hjl hsx
            go_wp2_with fail
            go_roundg go
            case measure => omega
            case rel => exact ⟨td, HT5, HS5, hq1, hq2⟩
end Go.Proofs.Ytecaghjddoajmaa
