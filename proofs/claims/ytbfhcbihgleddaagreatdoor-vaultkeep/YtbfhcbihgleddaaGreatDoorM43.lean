/-
  Texts of the vault, in build order: VNam2, VKnownP.
-/
import Derived.Test.YtbfhcbihgleddaaGreatDoorM42
/-
  What is found has no more parts than the disk has files.
-/
namespace Go.Proofs.YtbfhcbihgleddaaGreatDoor
open Go.RowKit Go.Maps

theorem len_of_subset {α : Type} [BEq α] [LawfulBEq α] : ∀ {l m : List α}, l.Nodup → (∀ x ∈ l, x ∈ m) → l.length ≤ m.length := by
  intro l
  induction l with
  | nil => intro m _ _; simp
  | cons a l ih =>
    intro m hn hs
    rw [List.nodup_cons] at hn
    have ha := hs a (List.mem_cons_self ..)
    have h1 := ih (m := m.erase a) hn.2 (fun x hx => (List.mem_erase_of_ne (a := x) (b := a) (fun e => by subst e; exact hn.1 hx)).2 (hs x (List.mem_cons_of_mem _ hx)))
    have h2 := List.length_erase_of_mem ha
    have h3 : 0 < m.length := List.length_pos_of_mem ha
    simp only [List.length_cons]
    omega
theorem rdF_mem {p : Pd} {s : List UInt8} {l : List Nat} (h : rdF p s = some l) : s ∈ p.l.map Fi.n := by
  unfold rdF at h
  cases hf : (pFind p s).1 with
  | none => rw [hf] at h; cases h
  | some f =>
    obtain ⟨h1, h2⟩ := fGet_mem (pFind_some hf).2.2
    exact List.mem_map.2 ⟨f, h1, h2⟩
theorem chks_get {p : Pd} {n : Nat} : ∀ {ss : List ByteArray} {i : Nat} {cs : List (List Nat)}, chks p n i ss = some cs → ∀ (j : Nat) (f : ByteArray), ss[j]? = some f → ∃ l, rdF p (nm f) = some l ∧ f = partN n (i + j) (crc l) := by
  intro ss
  induction ss with
  | nil => intro i cs _ j f hf; simp at hf
  | cons a ss ih =>
    intro i cs h j f hf
    simp only [chks] at h
    unfold chk1 at h
    cases hr : rdF p (nm a) with
    | none => rw [hr] at h; cases h
    | some l =>
      rw [hr] at h
      dsimp only at h
      split at h
      · rename_i hc
        cases hx : chks p n (i + 1) ss with
        | none => rw [hx] at h; cases h
        | some cs' =>
          match j, hf with
          | 0, hf =>
            obtain rfl : a = f := by simpa using hf
            exact ⟨l, hr, hc.1⟩
          | j + 1, hf =>
            obtain ⟨l', h1, h2⟩ := ih hx j f (by simpa using hf)
            exact ⟨l', h1, by rw [h2]; congr 1; omega⟩
      · cases h
theorem findS_parts {p : Pd} {s : List UInt8} {x : Sp} (h : findS p s = some x) : x.parts.length ≤ p.l.length := by
  unfold findS at h
  cases hm : rdM p s with
  | none => rw [hm] at h; cases h
  | some m =>
    rw [hm] at h
    dsimp only at h
    cases hc : chks p m.n 0 m.ss with
    | none => rw [hc] at h; cases h
    | some cs =>
      rw [hc] at h
      obtain rfl := Option.some.inj h
      have hg := chks_get hc
      have hnd : (m.ss.map nm).Nodup := by
        rw [List.nodup_iff_pairwise_ne, List.pairwise_map, List.pairwise_iff_getElem]
        intro i j hi hj hij e
        obtain ⟨l1, _, h2⟩ := hg i _ (List.getElem?_eq_getElem hi)
        obtain ⟨l3, _, h4⟩ := hg j _ (List.getElem?_eq_getElem hj)
        rw [h2, h4] at e
        have := (partN_inj e).2.1
        omega
      have hsub : ∀ y ∈ m.ss.map nm, y ∈ p.l.map Fi.n := fun y hy => by
        obtain ⟨f, hf, rfl⟩ := List.mem_map.1 hy
        obtain ⟨j, hj⟩ := List.getElem?_of_mem hf
        obtain ⟨l, h1, _⟩ := hg j f hj
        exact rdF_mem h1
      have := len_of_subset hnd hsub
      simpa using this
end Go.Proofs.YtbfhcbihgleddaaGreatDoor
/-
  The vault that is worked by hand in the law: its disk behind each step, by evaluation.
-/
namespace Go.Proofs.YtbfhcbihgleddaaGreatDoor
def ks : Sn := ⟨1, 2, 0, [], [], []⟩
def kc : List Nat := [0, 0, 0, 18, 72, 59, 181, 159, 0, 1, 0, 2, 0, 0, 0, 0, 0, 0, 0, 0, 0, 0, 0, 0, 0, 0]
def kp0 : Pd := ⟨[], 1048576, -1⟩
def kpart (n : UInt8) : ByteArray := ⟨#[112, 97, 114, 116, 46, n, 46, 48, 46, 49, 116, 118, 101, 53, 107, 97]⟩
def ksn (n ep : Nat) (c : UInt8) : Sp := ⟨n, ep, [kpart c], [kc]⟩
def kfp (c : UInt8) : Fi := ⟨[112, 97, 114, 116, 46, c, 46, 48, 46, 49, 116, 118, 101, 53, 107, 97], [0, 0, 0, 26, 237, 104, 54, 170, 0, 0, 0, 18, 72, 59, 181, 159, 0, 1, 0, 2, 0, 0, 0, 0, 0, 0, 0, 0, 0, 0, 0, 0, 0, 0], 34⟩
def kfw (c : UInt8) (x : List Nat) (n ep c2 : Nat) : Fi := ⟨[119, 104, 111, 108, 101, 46, c], [0, 0, 0, 35] ++ x ++ [0, 0, 0, 0, 0, 0, 0, n, 0, 0, 0, 0, 0, 0, 0, ep, 0, 1, 16, 112, 97, 114, 116, 46, c2, 46, 48, 46, 49, 116, 118, 101, 53, 107, 97], 43⟩
def kw1 := kfw 49 [49, 170, 218, 65] 1 1 49
def kw2 := kfw 50 [170, 150, 187, 103] 2 1 50
def kw5 := kfw 53 [40, 13, 16, 125] 5 2 53
theorem kpk : pk [] [] [ks] = ([kc], 0) := by kernel_rfl
theorem kput1 : pPut 2 kp0 [] [] 1 1 ([kc], 0) = (⟨[kfp 49, kw1], 1048576, -1⟩, 0, [ksn 1 1 49], []) := by kernel_rfl
theorem kput2 : pPut 2 ⟨[kfp 49, kw1], 1048576, -1⟩ [ksn 1 1 49] [] 2 1 ([kc], 0) = (⟨[kfp 49, kfp 50, kw1, kw2], 1048576, -1⟩, 0, [ksn 1 1 49, ksn 2 1 50], []) := by kernel_rfl
theorem kput5 : pPut 2 ⟨[kfp 49, kfp 50, kw1, kw2], 1048576, -1⟩ [ksn 1 1 49, ksn 2 1 50] [] 5 2 ([kc], 0) = (⟨[kfp 50, kfp 53, kw2, kw5], 1048576, -1⟩, 0, [ksn 2 1 50, ksn 5 2 53], []) := by kernel_rfl
theorem kput6 : pPut 2 ⟨[kfp 50, kfp 53, kw2, kw5], 1048576, -1⟩ [ksn 2 1 50, ksn 5 2 53] [] 5 2 ([kc], 0) = (⟨[kfp 50, kfp 53, kw2, kw5], 1048576, -1⟩, 31, [ksn 2 1 50, ksn 5 2 53], []) := by kernel_rfl
theorem kcrash : crashL [] [kfp 50, kfp 53, kw2, kw5] = [kfp 50, kfp 53, kw2, kw5] := by kernel_rfl
theorem kfound : foundS ⟨[kfp 50, kfp 53, kw2, kw5], 1048576, -1⟩ (([kfp 50, kfp 53, kw2, kw5].map Fi.n).map mkS) = [ksn 2 1 50, ksn 5 2 53] := by kernel_rfl
theorem kgot : gotS [kc] = [ks] := by kernel_rfl
end Go.Proofs.YtbfhcbihgleddaaGreatDoor
