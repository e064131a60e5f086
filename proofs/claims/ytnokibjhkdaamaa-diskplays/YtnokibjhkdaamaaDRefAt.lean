/-
  Walks over the document's disk: at, Used.
-/
import Derived.Test.YtnokibjhkdaamaaDRef
namespace Go.Proofs.Ytnokibjhkdaamaa
open Go.RowKit Go.Maps

theorem RAt.file {w : World} {R : Nat} {p : Pd} {rs : List Rf} {ao : Option Addr} {n cap : Nat} (h : RAt w R p rs (.slice ao n cap)) {i : Nat} {r : Rf} (hr : rs[i]? = some r) :
    ∃ b off, ao = some ⟨b, off, none⟩ ∧ w.cell? ⟨b, off + i * 3, none⟩ = some (.string ⟨r.f.n.toArray⟩) ∧ w.cell? ⟨b, off + i * 3 + 1, none⟩ = some (.slice r.a r.f.x.length r.c) ∧ w.cell? ⟨b, off + i * 3 + 2, none⟩ = some (.int .i64 (r.f.s : Nat)) := by
  obtain ⟨ao', cap', e, _, h4⟩ := h.row
  simp only [Value.slice.injEq] at e
  obtain ⟨rfl, -, rfl⟩ := e
  rcases h4 with h4 | ⟨b, off, rfl, _, h7⟩
  · subst h4; simp at hr
  · exact ⟨b, off, rfl, h7 i r hr 0 _ rfl, h7 i r hr 1 _ rfl, h7 i r hr 2 _ rfl⟩
theorem RAt.fi {w : World} {R : Nat} {p : Pd} {rs : List Rf} {vl : Value} (h : RAt w R p rs vl) (i : Nat) : p.l[i]? = rs[i]?.map Rf.f := by rw [← h.eq, List.getElem?_map]
theorem RAt.len {w : World} {R : Nat} {p : Pd} {rs : List Rf} {vl : Value} (h : RAt w R p rs vl) : rs.length = p.l.length := by rw [← h.eq, List.length_map]

theorem less_before : ∀ a b : List UInt8, Op.bytesLess a b = bytesBefore a b
  | [], [] => rfl
  | [], _ :: _ => rfl
  | _ :: _, [] => rfl
  | a :: r, b :: s => by
    simp only [Op.bytesLess, bytesBefore, less_before r s]
theorem toList_name (s : ByteArray) : s.toList = nm s := Lib.toList_data s
theorem eq_name (a b : List UInt8) : (a == b) = decide (a = b) := by
  rw [Bool.eq_iff_iff]
  simp
theorem pos_here {s : List UInt8} {l : List Fi} {i : Nat} {f : Fi} (h1 : ∀ j g, j < i → l[j]? = some g → bytesBefore g.n s = true) (hf : l[i]? = some f) (h2 : bytesBefore f.n s = false) : pos s l = i ∧ isAt s l = (f.n == s) := by
  have hp : pos s l = i := pos_eq (Nat.le_of_lt (List.getElem?_eq_some_iff.1 hf).1) h1 (fun g hg => by rw [hf] at hg; cases hg; exact h2)
  refine ⟨hp, ?_⟩
  unfold isAt
  rw [hp, hf]
theorem pos_end {s : List UInt8} {l : List Fi} (h1 : ∀ j g, j < l.length → l[j]? = some g → bytesBefore g.n s = true) : pos s l = l.length ∧ isAt s l = false := by
  have hp : pos s l = l.length := pos_eq (Nat.le_refl _) h1 (fun g hg => by rw [List.getElem?_eq_none (Nat.le_refl _)] at hg; cases hg)
  refine ⟨hp, ?_⟩
  unfold isAt
  rw [hp, List.getElem?_eq_none (Nat.le_refl _)]

set_option maxHeartbeats 2000000 in
set_option maxRecDepth 100000 in
theorem rAt {w : World} {R : Nat} {p : Pd} {rs : List Rf} {ao : Option Addr} {cap : Nat} (h : RAt w R p rs (.slice ao rs.length cap)) (hl : rs.length ≤ 1000000) (s : ByteArray) :
    Calls Try.prog 47 #[.pointer (some ⟨R, 0, none⟩), .string s] w fun e w' => e = .returned (.tuple #[.int .i64 (pos (nm s) p.l : Nat), .bool (isAt (nm s) p.l)]) ∧ ∃ q, w' = w.drewN q := by
  obtain ⟨c0, c1, c2⟩ := h.box.cells3
  have HH := hide h
  clear h
  go_enter Try.func47, Try.ntmps47
  go_wp2_with fail
  go_loopw [6] (fun iv wr => ∃ i : Nat, i ≤ rs.length ∧ iv = .int .i64 i ∧ wr = w ∧ Hid (∀ j f, j < i → p.l[j]? = some f → bytesBefore f.n (nm s) = true)) (fun iv _ => rs.length - (intOf iv).toNat)
  case atStart => exact ⟨0, Nat.zero_le _, rfl, rfl, fun j f hj => by omega⟩
  case round =>
    obtain ⟨i, hi, rfl, rfl, HB⟩ := hrel
    by_cases hlt : i < rs.length
    · obtain ⟨r, hr⟩ : ∃ r, rs[i]? = some r := ⟨_, List.getElem?_eq_getElem hlt⟩
      obtain ⟨b, off, rfl, d0, d1, d2⟩ := HH.out.file hr
      have hfi : p.l[i]? = some r.f := by rw [HH.out.fi i, hr]; rfl
      have HF := hide hfi
      clear hr hfi
      have hls : Op.bytesLess r.f.n s.toList = bytesBefore r.f.n (nm s) := by rw [less_before, toList_name]
      by_cases hb : bytesBefore r.f.n (nm s) = true
      · rw [hb] at hls
        clear hb
        have HLS := hide hls
        go_wp2
        go_roundw
        case rel => exact ⟨i + 1, by omega, by go_num, by first | rfl | trivial, fun j f hj hf => by
          by_cases hji : j < i
          · exact HB.out j f hji hf
          · obtain rfl : j = i := by omega
            rw [HF.out] at hf
            cases hf
            rw [less_before, toList_name] at HLS
            exact HLS.out⟩
        case measure => simp [intOf]; omega
      · have hb' : bytesBefore r.f.n (nm s) = false := by simpa using hb
        rw [hb'] at hls
        obtain ⟨e1, e2⟩ := pos_here HB.out HF.out hb'
        obtain ⟨q, hq⟩ : ∃ q : Bool, (r.f.n == nm s) = q := ⟨_, rfl⟩
        have hqs : (r.f.n == s.toList) = q := by rw [toList_name]; exact hq
        rw [hq] at e2
        have HE := hide (And.intro e1 e2)
        clear e1 e2 hq hb hb'
        go_wp2_with fail
        go_quiet (fail)
        go_wp2
        go_ret2
        exact ⟨by rw [HE.out.1, HE.out.2]; rfl, nq, rfl⟩
    · obtain rfl : i = rs.length := by omega
      have hlen := HH.out.len
      obtain ⟨e1, e2⟩ := pos_end (s := nm s) (l := p.l) (by rw [← hlen]; exact HB.out)
      rw [← hlen] at e1
      have HE := hide (And.intro e1 e2)
      clear e1 e2 hlen
      go_wp2_with fail
      go_quiet (fail)
      go_wp2
      go_ret2
      exact ⟨by rw [HE.out.1, HE.out.2]; rfl, nq, rfl⟩
theorem fSum_succ {l : List Fi} {i : Nat} {f : Fi} (h : l[i]? = some f) : fSum (l.take (i + 1)) = fSum (l.take i) + f.x.length := by
  obtain ⟨hi, rfl⟩ := List.getElem?_eq_some_iff.1 h
  unfold fSum
  rw [List.take_succ_eq_append_getElem hi, List.map_append, List.sum_append]
  simp
theorem fSum_take (l : List Fi) (i : Nat) : fSum (l.take i) ≤ fSum l := by
  have : fSum l = fSum (l.take i) + fSum (l.drop i) := by
    unfold fSum
    rw [← List.sum_append, ← List.map_append, List.take_append_drop]
  omega
set_option maxHeartbeats 2000000 in
set_option maxRecDepth 100000 in
theorem rUsed {w : World} {R : Nat} {p : Pd} {rs : List Rf} {ao : Option Addr} {cap : Nat} (h : RAt w R p rs (.slice ao rs.length cap)) (hl : rs.length ≤ 1000000) (hs : fSum p.l ≤ 1048576000000) :
    Calls Try.prog 48 #[.pointer (some ⟨R, 0, none⟩)] w fun e w' => e = .returned (.int .i64 (fSum p.l : Nat)) ∧ w' = w := by
  obtain ⟨c0, c1, c2⟩ := h.box.cells3
  have HH := hide h
  clear h
  go_enter Try.func48, Try.ntmps48
  go_wp2_with fail
  go_loopw [3, 4] (fun nv iv wr => ∃ i m : Nat, i ≤ rs.length ∧ iv = .int .i64 i ∧ nv = .int .i64 m ∧ wr = w ∧ Hid (m = fSum (p.l.take i))) (fun _ iv _ => rs.length - (intOf iv).toNat)
  case atStart => exact ⟨0, 0, Nat.zero_le _, rfl, rfl, rfl, by simp [Hid, fSum]⟩
  case round =>
    obtain ⟨i, m, hi, rfl, rfl, rfl, HM⟩ := hrel
    by_cases hlt : i < rs.length
    · obtain ⟨r, hr⟩ : ∃ r, rs[i]? = some r := ⟨_, List.getElem?_eq_getElem hlt⟩
      obtain ⟨b, off, rfl, d0, d1, d2⟩ := HH.out.file hr
      have hfi : p.l[i]? = some r.f := by rw [HH.out.fi i, hr]; rfl
      have hsc := fSum_succ hfi
      have h2 := fSum_take p.l (i + 1)
      have hm := HM.out
      have HS := hide hsc
      have hb : m + r.f.x.length ≤ 1048576000000 := by omega
      have hw1 : wrap64 ((m : Int) + (r.f.x.length : Int)) = ((m + r.f.x.length : Nat) : Int) := by unfold wrap64; omega
      clear hr hfi hsc h2 hm
      go_wp2
      go_roundw
      case rel => exact ⟨i + 1, m + r.f.x.length, by omega, by go_num, by first | rfl | go_num, by first | rfl | trivial, by show _ = _; rw [HS.out, HM.out]⟩
      case measure => simp [intOf]; omega
    · obtain rfl : i = rs.length := by omega
      have hm := HM.out
      rw [HH.out.len, List.take_length] at hm
      have HM2 := hide hm
      clear hm
      go_wp2
      go_ret
      exact ⟨by rw [← HM2.out]; rfl, rfl⟩
end Go.Proofs.Ytnokibjhkdaamaa
