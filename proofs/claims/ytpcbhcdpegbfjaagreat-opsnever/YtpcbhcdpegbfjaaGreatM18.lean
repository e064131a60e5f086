/-
  Texts in build order: ZJNode, ZJFit, ZJLook.
-/
import Derived.Test.YtpcbhcdpegbfjaaGreatM15
import Derived.Test.YtpcbhcdpegbfjaaGreatM17
import Derived.WalkMore
/-
  Nodes and jobs as they lie in memory; a line of nodes that wait for their places.
-/
namespace Go.Proofs.YtpcbhcdpegbfjaaGreat.J
open Go.RowKit

def ic (x : Int) : List Value := [.int .i64 x]
theorem ic_len (x : Int) : (ic x).length = 1 := rfl
/-- A node: what it says, and where its inputs lie. -/
structure Nd where
  kind : Int
  ia : Option Addr
  ic : Nat
  ins : List Int
  par : Int
  e : Ex
  agg : Int
  wk : Int
  ws : Int
  wl : Int
def Nd.cs (n : Nd) : List Value := [.int .i64 n.kind, .slice n.ia n.ins.length n.ic, .int .i64 n.par, .int .i64 n.e.op, .int .i64 n.e.n, .slice n.e.a n.e.l.length n.e.c, .int .i64 n.agg, .int .i64 n.wk, .int .i64 n.ws, .int .i64 n.wl]
def Nd.val (n : Nd) : Value := .agg #[.int .i64 n.kind, .slice n.ia n.ins.length n.ic, .int .i64 n.par, .int .i64 n.e.op, .int .i64 n.e.n, .slice n.e.a n.e.l.length n.e.c, .int .i64 n.agg, .int .i64 n.wk, .int .i64 n.ws, .int .i64 n.wl]
theorem Nd.cs_len (n : Nd) : n.cs.length = 10 := rfl
/-- The nodes lie there, and their inputs. -/
structure JobIn (B : Nat) (w : World) (v : Value) (ns : List Nd) : Prop where
  seg : LSeg 10 Nd.cs B w v ns
  ins : ∀ n ∈ ns, LSeg 1 ic B w (.slice n.ia n.ins.length n.ic) n.ins
theorem JobIn.below {B : Nat} {w w' : World} {v : Value} {ns : List Nd} (h : JobIn B w v ns) (hb : Below B w w') : JobIn B w' v ns := ⟨h.seg.below hb, fun n hn => (h.ins n hn).below hb⟩
theorem JobIn.mono {B B' : Nat} {w : World} {v : Value} {ns : List Nd} (h : JobIn B w v ns) (hb : B ≤ B') : JobIn B' w v ns := ⟨h.seg.mono hb, fun n hn => (h.ins n hn).mono hb⟩
theorem JobIn.shape {B : Nat} {w : World} {v : Value} {ns : List Nd} (h : JobIn B w v ns) : ∃ ao cap, v = .slice ao ns.length cap := by
  obtain ⟨ao, cap, h1, _⟩ := h.seg
  exact ⟨ao, cap, h1⟩
/-- The i-th node's cells. -/
theorem JobIn.at_ {B : Nat} {w : World} {ao : Option Addr} {m cap : Nat} {ns : List Nd} (h : JobIn B w (.slice ao m cap) ns) {i : Nat} {n : Nd} (hn : ns[i]? = some n) :
    ∃ b o, ao = some ⟨b, o, none⟩ ∧ b < B ∧ w.cell? ⟨b, o + i * 10, none⟩ = some (.int .i64 n.kind) ∧ w.cell? ⟨b, o + i * 10 + 1, none⟩ = some (.slice n.ia n.ins.length n.ic) ∧ w.cell? ⟨b, o + i * 10 + 2, none⟩ = some (.int .i64 n.par) ∧
      w.cell? ⟨b, o + i * 10 + 3, none⟩ = some (.int .i64 n.e.op) ∧ w.cell? ⟨b, o + i * 10 + 4, none⟩ = some (.int .i64 n.e.n) ∧ w.cell? ⟨b, o + i * 10 + 5, none⟩ = some (.slice n.e.a n.e.l.length n.e.c) ∧ w.cell? ⟨b, o + i * 10 + 6, none⟩ = some (.int .i64 n.agg) ∧
      w.cell? ⟨b, o + i * 10 + 7, none⟩ = some (.int .i64 n.wk) ∧ w.cell? ⟨b, o + i * 10 + 8, none⟩ = some (.int .i64 n.ws) ∧ w.cell? ⟨b, o + i * 10 + 9, none⟩ = some (.int .i64 n.wl) := by
  obtain ⟨ao', cap', e, h2, h4⟩ := h.seg
  cases e
  rcases h4 with h4 | ⟨b, off, h5, h6, h7⟩
  · subst h4; simp at hn
  · exact ⟨b, off, h5, h6, h7 i n hn 0 _ rfl, h7 i n hn 1 _ rfl, h7 i n hn 2 _ rfl, h7 i n hn 3 _ rfl, h7 i n hn 4 _ rfl, h7 i n hn 5 _ rfl, h7 i n hn 6 _ rfl, h7 i n hn 7 _ rfl, h7 i n hn 8 _ rfl, h7 i n hn 9 _ rfl⟩
/-- The k-th input's cell. -/
theorem LSeg.num {B : Nat} {w : World} {ao : Option Addr} {m cap : Nat} {l : List Int} (h : LSeg 1 ic B w (.slice ao m cap) l) {k : Nat} {x : Int} (hx : l[k]? = some x) : ∃ b o, ao = some ⟨b, o, none⟩ ∧ b < B ∧ w.cell? ⟨b, o + k, none⟩ = some (.int .i64 x) := by
  obtain ⟨ao', cap', e, h2, h4⟩ := h
  cases e
  rcases h4 with h4 | ⟨b, off, h5, h6, h7⟩
  · subst h4; simp at hx
  · exact ⟨b, off, h5, h6, by simpa using h7 k x hx 0 _ rfl⟩

section
variable {base : Nat} {w w' : World} {K A P B n : Nat} {nv : Value} {pl : List Bool} {ps : List Nat} {vs : List Value} {bs : List (List Nat)} {rv rv' : Value} {rs rs' : List Nat} {C : List (Value × List Nat)}
theorem OwnN.other {base : Nat} {w : World} {v : Value} {l : List Nat} (h : OwnN base w v l) {k j : Nat} {u : Value} (hk : ∀ g, v.ownBlock = some g → g ≠ k) : OwnN base (w.setCell ⟨k, j, none⟩ u) v l :=
  h.back (fun g hg => Below.heap_setCell w ⟨k, j, none⟩ u g (hk g hg))
theorem map_set {α : Type} (f : α → Value) (l : List α) (i : Nat) (x : α) : ((l.map f).toArray.setIfInBounds i (f x)) = ((l.set i x).map f).toArray := by
  simp [List.map_set]
end
end Go.Proofs.YtpcbhcdpegbfjaaGreat.J
/-
  What a node must have: its expression, its aggregate, its window.
-/
namespace Go.Proofs.YtpcbhcdpegbfjaaGreat.J
open Go.RowKit

def spanB (s : Int) : Bool := decide (1 ≤ s ∧ s ≤ 68719476736)
def winB (k wk ws wl : Int) : Bool := if k = 7 then (if wk = 2 then spanB ws && spanB wl else if wk = 1 ∨ wk = 3 then spanB ws && decide (wl = 0) else false) else decide (wk = 0 ∧ ws = 0 ∧ wl = 0)
def aggB (k a : Int) : Bool := if k = 6 ∨ k = 7 then decide (1 ≤ a ∧ a ≤ 5) else decide (a = 0)
theorem ret_bool {a b : Bool} (h : a = b) : Ending.returned (.bool a) = .returned (.bool b) := by rw [h]

def exB (k op n : Int) (m : Nat) (c : Int) : Bool := if 2 ≤ k ∧ k ≤ 4 then decide (c = 0) else decide (op = 0 ∧ n = 0 ∧ m = 0)
end Go.Proofs.YtpcbhcdpegbfjaaGreat.J
/-
  look: who may come next is sought out.
-/
namespace Go.Proofs.YtpcbhcdpegbfjaaGreat.J
open Go.RowKit

end Go.Proofs.YtpcbhcdpegbfjaaGreat.J
