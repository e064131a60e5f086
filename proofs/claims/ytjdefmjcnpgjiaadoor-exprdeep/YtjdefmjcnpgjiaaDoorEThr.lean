/-
  soundThroughout.
-/
import Derived.Test.YtjdefmjcnpgjiaaDoorEThrS
import Derived.Test.YtjdefmjcnpgjiaaDoorESound
import Derived.Carry
import Derived.Deep.LoopGhost
import Derived.OwnWalk
namespace Go.Proofs.YtjdefmjcnpgjiaaDoor
open Go.RowKit

theorem stop_here {p : Prop} (h : Hid p) : p := h
theorem new_cs (w : World) (z : Ex) : ∀ j u, z.cs[j]? = some u → (w.alloc (.cells #[.int .i64 z.op, .int .i64 z.n, .slice z.a z.l.length z.c] 24)).cell? ((⟨w.heap.size, 0, none⟩ : Addr).add j) = some u := by
  intro k u hu
  have h := heap_alloc_new w (.cells #[.int .i64 z.op, .int .i64 z.n, .slice z.a z.l.length z.c] 24)
  have h2 : ((⟨w.heap.size, 0, none⟩ : Addr).add k) = ⟨w.heap.size, k, none⟩ := by simp [Addr.add]; omega
  rw [h2]
  unfold World.cell?
  rw [h]
  match k, hu with
  | 0, hu => exact hu
  | 1, hu => exact hu
  | 2, hu => exact hu
  | n + 3, hu => simp [Ex.cs] at hu
theorem at_new' (w : World) (o : Obj) (k : Nat) (h : k = w.heap.size) : (w.alloc o).heap[k]? = some o := by subst h; exact heap_alloc_new w o
set_option maxHeartbeats 4000000 in
set_option maxRecDepth 100000 in
theorem thr_any (e : Ex) (w : World) (hin : In w e) (hpl : ∀ p ∈ places e, Pl w p) (hsm : (places e).length ≤ 100000) :
    Calls Tryd.prog 25 #[e.val] w fun r w' => r = .returned (.bool (formed e)) ∧ Below w.heap.size w w' := by
  have HE := hide (Thr.start w e)
  have HIN := hide hin
  have HPL := hide hpl
  have HU : Hid (uns e [] ≤ 100000) := Nat.le_trans (List.length_filter_le _ _) hsm
  obtain ⟨F, hF⟩ : ∃ F, formed e = F := ⟨_, rfl⟩
  rw [hF]
  have HF := hide hF
  clear hin hpl hsm hF
  have hmk : (Instr.makeMap 51 none).run Tryd.prog (w.alloc (.cells #[.int .i64 e.op, .int .i64 e.n, .slice e.a e.l.length e.c] 24)) = .ok (.map (some (w.heap.size + 1))) ((w.alloc (.cells #[.int .i64 e.op, .int .i64 e.n, .slice e.a e.l.length e.c] 24)).alloc (.map #[] 0)) := by
    rw [run_makeMap]; simp
  have HT : Hid (TS w (((w.alloc (.cells #[.int .i64 e.op, .int .i64 e.n, .slice e.a e.l.length e.c] 24)).alloc (.map #[] 0)).alloc (.cells #[.int .i64 e.op, .int .i64 e.n, .slice e.a e.l.length e.c] 24)) [] [e] (.slice (some ⟨w.heap.size + 2, 0, none⟩) 1 1)) := by
    have b1 := below1 w (.cells #[.int .i64 e.op, .int .i64 e.n, .slice e.a e.l.length e.c] 24)
    have b2 := below1 (w.alloc (.cells #[.int .i64 e.op, .int .i64 e.n, .slice e.a e.l.length e.c] 24)) (.map #[] 0)
    have b3 := below1 ((w.alloc (.cells #[.int .i64 e.op, .int .i64 e.n, .slice e.a e.l.length e.c] 24)).alloc (.map #[] 0)) (.cells #[.int .i64 e.op, .int .i64 e.n, .slice e.a e.l.length e.c] 24)
    have b12 := b1.trans (b2.mono b1.size)
    refine ⟨b12.trans (b3.mono b12.size), ⟨#[], 0, ?_, ⟨rfl, fun x hx => by cases hx⟩⟩, rfl, .inr ⟨_, 1, #[.int .i64 e.op, .int .i64 e.n, .slice e.a e.l.length e.c], rfl, Nat.le_refl _, ?_, Nat.le_refl _, by decide, rfl, rfl⟩⟩
    · rw [b3.block _ (by simp)]
      exact at_new' _ _ _ (by simp)
    · exact at_new' _ _ _ (by simp)
  have hval : e.val = .agg #[.int .i64 e.op, .int .i64 e.n, .slice e.a e.l.length e.c] := by obtain ⟨op, n, a, c, l⟩ := e; simp [Ex.val]
  rw [hval]
  clear hval
  go_enter Tryd.func25, Tryd.ntmps25
  go_wp2_with fail
  go_loopg [4] 100001 (fun g v wr => ∃ sp todo, Hid (TS w wr sp todo v) ∧ Hid (Thr w e sp todo) ∧ todo.length + uns e sp ≤ g ∧ g ≤ 100001)
  case atStart => exact ⟨[], [e], HT, HE, by have := HU.out; simp; omega, Nat.le_refl _⟩
  case round =>
    obtain ⟨sp, todo, HTS, HTH, hg, hg1⟩ := hrel
    rcases List.eq_nil_or_concat todo with rfl | ⟨t', x, htx⟩
    · obtain ⟨ao, cap, rfl⟩ := HTS.out.shape
      have hf := HTH.out.formed HIN.out
      rw [HF.out] at hf
      subst hf
      go_wp2
      exact bodyPost_ret (v := .bool true) (by simp [results, Tryd.results25, go_sem]) rfl ⟨rfl, HTS.out.bel⟩
    · rw [List.concat_eq_append] at htx
      subst htx
      obtain ⟨g, cap, rfl, hc1, hc2, hat, hts⟩ := HTS.out.last
      have c0 := hat.c0
      have c1 := hat.c1
      have c2 := hat.c2
      simp only [Nat.zero_add] at c0 c1 c2
      have HX := hide (HTH.out.sub x (by simp))
      have HT2 := hide hts
      clear HTS hat hts
      simp only [List.length_append, List.length_cons, List.length_nil] at hg
      have hlx := (HIN.out.sub HX.out).self.len
      have hB := HT2.out.pm
      cases hs : snd1 x.op x.n x.l.length
      · have HS := hide hs
        have hf : F = false := by
          rw [← HF.out]
          cases hfe : formed e
          · rfl
          · rw [(formed_sub hfe x HX.out).1] at hs; cases hs
        subst hf
        clear hs
        have hb1 := hide (below1 wr (.cells #[.int .i64 x.op, .int .i64 x.n, .slice x.a x.l.length x.c] 24))
        go_wp2_with (go_at_call 30; refine (sound_any _ _ _ _ _ _).mono ?_; rw [HS.out]; rintro r w1 ⟨rfl, hb2⟩)
        exact bodyPost_ret (v := .bool false) (by simp [results, Tryd.results25, go_sem]) rfl ⟨rfl, ((HT2.out.below hb1.out).below hb2).bel⟩
      · have HS := hide hs
        have HI := hide (HTH.out.pop hs)
        clear hs HTH
        obtain ⟨wb, hwb⟩ : ∃ wb, wr.alloc (.cells #[.int .i64 x.op, .int .i64 x.n, .slice x.a x.l.length x.c] 24) = wb := ⟨_, rfl⟩
        have hb1 := below1 wr (.cells #[.int .i64 x.op, .int .i64 x.n, .slice x.a x.l.length x.c] 24)
        have HT3 := hide (HT2.out.below hb1)
        have hgl := (World.ownsRow.lt HT2.out.row g rfl).2
        have HBX : Hid (BX (wr.alloc (.cells #[.int .i64 x.op, .int .i64 x.n, .slice x.a x.l.length x.c] 24)) wr.heap.size (.slice (some ⟨g, 0, none⟩) t'.length cap) x) := ⟨heap_alloc_new wr _, by simp [Value.ownBlock]; omega⟩
        clear hb1 HT2 hwb
        go_wp2_with (go_at_call 30; refine (sound_any _ _ _ _ _ _).mono ?_; rw [HS.out]; rintro r w2 ⟨rfl, hb2⟩; have HT4 := hide (HT3.out.below hb2); have HB4 := hide (HBX.out.below hb2); have hc4 := HB4.out.cell; clear hb2 HT3 HBX)
        have hBn : wr.heap.size ≠ w.heap.size + 1 := by
          obtain ⟨es, clock, h1, _⟩ := hB
          have := (Array.getElem?_eq_some_iff.1 h1).1
          omega
        clear hc4 c0 c1 c2 hB hgl
        generalize wr.heap.size = B at *
        go_loopw [4, 33] (fun v i wx => ∃ (j : Nat) (sp' : List Addr) (td : List Ex), j ≤ x.l.length ∧ i = .int .i64 j ∧ Hid (TS w wx sp' td v) ∧ Hid (BX wx B v x) ∧ Hid (ThrI w e sp' td x j) ∧ td.length + uns e sp' + 1 ≤ gk) (fun _ i _ => x.l.length - (intOf i).toNat)
        case atStart => exact ⟨0, sp, t', Nat.zero_le _, rfl, HT4, HB4, HI, by omega⟩
        case round =>
          clear HT4 HB4 HI
          obtain ⟨j, sp', td, hj, rfl, HT5, HB5, HI5, hm5⟩ := hrel
          obtain ⟨ao, acap, rfl⟩ := HT5.out.shape
          have hc5 := HB5.out.cell
          by_cases hlt : j < x.l.length
          · obtain ⟨z, hz⟩ : ∃ z, x.l[j]? = some z := ⟨_, List.getElem?_eq_getElem hlt⟩
            have hLx := (HIN.out.sub HX.out).self
            obtain ⟨b, o, ha, e0, e1, e2⟩ := hLx.at_ j z hz
            have hplace : place x j = ⟨b, o + j * 3, none⟩ := by unfold place; rw [ha]
            have hat := hLx.place hz
            have hpm : place x j ∈ places e := mem_places HX.out hlt
            have hPl : Pl wr (place x j) := (HPL.out _ hpm).below HT5.out.bel
            have hPs : ∀ q ∈ sp', Pl wr q := fun q hq => (HPL.out _ (HI5.out.seen q hq).1).below HT5.out.bel
            have hlk := HT5.out.pm.look hPl hPs
            have bu := below1 wr (.cells #[] 53)
            have HT5' := hide (HT5.out.below bu)
            have HB5' := hide (HB5.out.below bu)
            have hPl' := hPl.below bu
            have hPs' : ∀ q ∈ sp', Pl (wr.alloc (.cells #[] 53)) q := fun q hq => (hPs q hq).below bu
            clear bu
            by_cases hin : place x j ∈ sp'
            · have HI6 := hide (HI5.out.old hin)
              rw [decide_eq_true hin, hplace] at hlk
              rw [ha] at hc5
              clear ha hPl hPs hPl' hPs' hpm hin hplace hat hz e0 e1 e2 hLx
              go_wp2_with fail
              go_roundw
              case rel => exact ⟨j + 1, sp', td, by omega, by go_num, HT5', HB5', HI6, hm5⟩
              case measure => simp [intOf]; omega
            · have HI6 := hide (HI5.out.new hz hat)
              rw [decide_eq_false hin, hplace] at hlk
              obtain ⟨w3, hput, hT3, -, hoth⟩ := HT5'.out.put hPl' hPs' hin
              have hless := uns_less hpm hin
              have hmb := hT3.pm
              have HB6 : Hid (BX w3 B (.slice ao td.length acap) x) := ⟨(hoth _ hBn).trans HB5'.out.box, HB5'.out.off⟩
              have hlb := cell_lt e0
              have c0' := (hT3.bel.cell (p := ⟨b, o + j * 3, none⟩) hlb).trans e0
              have c1' := (hT3.bel.cell (p := ⟨b, o + j * 3 + 1, none⟩) hlb).trans e1
              have c2' := (hT3.bel.cell (p := ⟨b, o + j * 3 + 2, none⟩) hlb).trans e2
              rw [hplace] at hput
              rw [ha] at hc5
              have HT6 := hide hT3
              have HP := hide hplace
              have hbz := below1 w3 (.cells #[.int .i64 z.op, .int .i64 z.n, .slice z.a z.l.length z.c] 24)
              have HT7 := hide (hT3.below hbz)
              have HB7 := hide (HB6.out.below hbz)
              have htl : td.length ≤ 1000000 := by omega
              clear ha hPl hPs hPl' hPs' hpm hin hplace hat hz e0 e1 e2 hLx hT3 hoth hmb hbz
              go_wp2_with (first | (at_builtin; refine stop_here ?_) | fail)
              unfold Hid
              refine app_ex rfl _ _ rfl rfl HT7.out HB7.out ⟨w3.heap.size, 0, none⟩ 1 z rfl ?news htl ?_
              case news => exact new_cs w3 z
              intro v8 w8 h8 hb8 hs8
              have HT8 := hide h8
              have HB8 := hide hb8
              clear h8 hb8
              go_wp2_with fail
              go_roundw
              case rel => exact ⟨j + 1, sp' ++ [place x j], td ++ [z], by omega, by go_num, HT8, HB8, HI6, by simp only [List.length_append, List.length_cons, List.length_nil]; omega⟩
              case measure => simp [intOf]; omega
          · have hjl : j = x.l.length := by omega
            subst hjl
            go_wp2_with fail
            go_roundg (gk - 1)
            case measure => omega
            case rel => exact ⟨sp', td, HT5, HI5.out.done, by omega, by omega⟩
end Go.Proofs.YtjdefmjcnpgjiaaDoor
