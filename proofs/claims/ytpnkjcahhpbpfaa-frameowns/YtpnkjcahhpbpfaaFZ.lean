/- A slice of structs as an argument has it: of an empty one nothing is known of where it lies. -/
import Derived.Test.YtpnkjcahhpbpfaaFLaw0
namespace Go.Proofs.Ytpnkjcahhpbpfaa
open Go.RowKit

/-- A slice of structs, of which nothing is said if it is empty. -/
def RowZ {α : Type} (n : Nat) (cs : α → Array Value) (v : Value) (l : List α) (w : World) : Prop := ∃ p c, v = .slice p l.length c ∧ (l = [] ∨ RowV n cs v l w)
section
variable {α : Type} {n : Nat} {cs : α → Array Value} {v : Value} {l : List α} {w w' : World}
theorem RowZ.on (hn : ∀ a, (cs a).size = n) (h : RowZ n cs v l w) (hb : Below w.heap.size w w') : RowZ n cs v l w' := by
  obtain ⟨p, c, h1, h2⟩ := h
  exact ⟨p, c, h1, h2.imp id fun h => h.on hn hb⟩
theorem RowZ.shape (h : RowZ n cs v l w) : ∃ p m c, v = .slice p m c ∧ Hid (m = l.length) := by
  obtain ⟨p, c, h1, h2⟩ := h
  exact ⟨p, l.length, c, h1, rfl⟩
end
set_option maxHeartbeats 2000000 in
theorem parts_none (p : Option Addr) (c : Nat) (w : World) : Calls Try.prog 9 #[.slice p 0 c] w fun e w' => e = .returned (.slice none 0 0) ∧ Below w.heap.size w w' := by
  go_enter Try.func9, Try.ntmps9
  go_wp2
  go_loopw [3, 4] (fun u i wr => i = .int .i64 0 ∧ u = .slice none 0 0 ∧ Below w.heap.size w wr) (fun _ _ _ => 0)
  case atStart => exact ⟨rfl, rfl, Below.refl _ _⟩
  case round =>
    obtain ⟨rfl, rfl, hb⟩ := hrel
    go_wp2
    go_ret
    exact ⟨rfl, hb⟩
theorem parts_anyZ (v : Value) (l : List FP) (hl : l.length ≤ 1000) (w : World) (hv : RowZ 2 cellsF v l w) :
    Calls Try.prog 9 #[v] w fun e w' => ∃ u, e = .returned u ∧ OwnR 62 2 cellsF w.heap.size u l w' ∧ Below w.heap.size w w' := by
  obtain ⟨p, c, h1, h2⟩ := hv
  rcases h2 with rfl | h2
  · subst h1
    exact (parts_none p c w).mono fun e w' ⟨h1, h2⟩ => ⟨_, h1, OwnR.nil, h2⟩
  · exact parts_any v l hl w h2
end Go.Proofs.Ytpnkjcahhpbpfaa
