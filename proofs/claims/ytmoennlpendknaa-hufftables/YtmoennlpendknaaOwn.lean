/- Byte slices that a call owns; walks of package bits: the writer's small functions. -/
import Derived.Test.YtmoennlpendknaaRdr
import Derived.Laws.IdiomStrings
import Derived.Laws.BytesArg
import Derived.Deep.RegionWith
namespace Go.Proofs.Ytmoennlpendknaa
open Go.RowKit

/-- The value is a slice of bytes of the call's own (from block B on) that holds just these bytes. -/
def Owns (B : Nat) (v : Value) (acc : List UInt8) (w : World) : Prop := w.ownsRow B 5 1 v acc.length (Lib.byteCells acc)
theorem Owns.below {B : Nat} {v : Value} {acc : List UInt8} {w w' : World} (h : Owns B v acc w) (hb : Below w.heap.size w w') : Owns B v acc w' := World.ownsRow.kept h (below_grown hb) (by cases v.ownBlock <;> simp)
theorem Owns.alloc {B : Nat} {v : Value} {acc : List UInt8} {w : World} (h : Owns B v acc w) (o : Obj) : Owns B v acc (w.alloc o) := World.ownsRow.alloc h o
theorem Owns.len {B : Nat} {v : Value} {l : List UInt8} {w : World} (h : Owns B v l w) : ∃ p c, v = .slice p l.length c := by
  rcases h.2 with ⟨rfl, h0⟩ | ⟨g, cap, cur, rfl, _⟩
  · exact ⟨none, 0, by rw [h0]⟩
  · exact ⟨_, _, rfl⟩
theorem Owns.shape {B : Nat} {v : Value} {l : List UInt8} {w : World} (h : Owns B v l w) : ∃ p m c, v = .slice p m c ∧ Hid (m = l.length) := by
  obtain ⟨p, c, h⟩ := h.len
  exact ⟨p, _, c, h, rfl⟩
theorem info5 : (Try.prog.info? 5).map (fun i => (i.zero, i.size, i.bytes)) = some (some (.int .u8 0), 1, 1) := by kernel_rfl

/-- string(b). -/
theorem owns_conv {B : Nat} {v : Value} {acc : List UInt8} {w : World} (h : Owns B v acc w) : (convert 67 9 v).run Try.prog w = .ok (.string ⟨acc.toArray⟩) w := by
  rcases h.2 with ⟨rfl, h0⟩ | ⟨g, cap, cur, rfl, hb, hh, hn, hm, hs, ht⟩
  · have : acc = [] := List.eq_nil_of_length_eq_zero h0
    subst this
    exact run_convert_bytes_nil w 67 5 Try.underlying67 Try.underlying5 0 0 9 Try.underlying9
  · refine run_convert_bytes_back w 67 9 5 ⟨g, 0, none⟩ cap acc Try.underlying67 Try.underlying5 Try.underlying9 fun j hj => ?_
    refine World.ownsRow.cells h (g := g) rfl j _ ?_
    simp [Lib.byteCells, hj]

/-- append(b, x, y, ..): the new bytes lie in a block of their own. -/
theorem wpList_app {ops : Array Oper} {rest : List Oper} {o : Oper} {a : Act} {Q : Exit → Act → World → Prop} {w0 : World} (hgd : o.guard = none) (s x : Operand)
    (ho : o.op = .call { callee := .builtin .append, args := #[s, x], argTypes := #[67, 67] })
    (B : Nat) (v : Value) (acc : List UInt8) (m : Nat) (news : List Value) (l : List UInt8) (hl : news = Lib.byteCells l) (hm : m = l.length)
    (hs : a.eval s = v) (hx : a.eval x = .slice (some ⟨w0.heap.size, 0, none⟩) m m)
    (hown : Owns B v acc w0) (hlen : acc.length + l.length ≤ 140737488355328) (hB : B ≤ w0.heap.size)
    (h : ∀ v' w', Owns B v' (acc ++ l) w' → Below B w0 w' → Lib.OthersKept 5 none w0 w' → wpList Try.prog ops Q rest (a.put o.dst v') w') :
    wpList Try.prog ops Q (o :: rest) a (w0.alloc (.cells news.toArray 5)) := by
  obtain ⟨i0, hi, hz0, hz1, hz2⟩ := info_parts info5
  subst hm
  have hnl : news.length = l.length := by rw [hl, Lib.byteCells_length]
  refine wpList_append_own _ hgd s x 67 ho B 5 i0 (.int .u8 0) 1 1 Try.underlying67 hi hz0 hz1 hz2 rfl (by decide) v acc.length (Lib.byteCells acc) hs (World.ownsRow.alloc hown _) ⟨w0.heap.size, 0, none⟩ l.length l.length news hx (by omega) ?_ ?_ (by unfold maxLen; omega) (by omega) (by simp; omega) ?_
  · intro j u hj
    have hadd : (⟨w0.heap.size, 0, none⟩ : Addr).add j = ⟨w0.heap.size, j, none⟩ := by unfold Addr.add; split <;> simp_all
    rw [hadd, cell_of_row _ w0.heap.size j news.toArray 5 (0, 0) (heap_alloc_new w0 _)]
    simpa using hj
  · intro u hu
    rw [hl] at hu
    simp only [Lib.byteCells, List.mem_map] at hu
    obtain ⟨b, _, rfl⟩ := hu
    rfl
  · intro v' w' hown' hg _
    have ho2 := World.ownsRow.alloc hown (.cells news.toArray 5)
    refine h v' w' ?_ (((Below.refl B w0).alloc hB _).grown hg (by simp; omega) (fun k hk => (ho2.lt k hk).1)) (((Lib.OthersKept.refl 5 none w0).alloc _).grown hg (Lib.ownsRow_kind ho2))
    unfold Owns
    rw [List.length_append, Lib.byteCells_append, ← hl]
    exact hown'

theorem data_length (b : Nat) : (data b).length ≤ 2 := by unfold data; split <;> simp

set_option maxHeartbeats 1000000 in
theorem appendData_any (B : Nat) (v : Value) (acc : List UInt8) (b : Nat) (hb : b < 256) (w : World) (h : Owns B v acc w) (hlen : acc.length ≤ 1000000) (hB : B ≤ w.heap.size) :
    Calls Try.prog 39 #[v, .int .u8 b] w fun e w' => ∃ v', e = .returned v' ∧ Owns B v' (acc ++ data b) w' ∧ Below B w w' ∧ Lib.OthersKept 5 none w w' := by
  have HO := Lib.hid h
  clear h
  by_cases h5 : b = 255
  · subst h5
    go_enter Try.func39, Try.ntmps39
    go_wp2_with (at_builtin; refine wpList_app rfl _ _ rfl B v acc 1 [.int .u8 255] [255] rfl rfl rfl rfl HO.out (by simp; omega) hB ?_)
    intro v1 w1 o1 b1 k1
    have H1 := Lib.hid o1
    have HB1 := Lib.hid b1
    have HK1 := Lib.hid k1
    have hs1 := b1.size
    clear o1 b1 k1
    go_wp2_with (at_builtin; refine wpList_app rfl _ _ rfl B v1 (acc ++ [255]) 1 [.int .u8 0] [0] rfl rfl rfl rfl H1.out (by simp; omega) (by omega) ?_)
    intro v2 w2 o2 b2 k2
    have H2 := Lib.hid o2
    have HB2 := Lib.hid (HB1.out.trans b2)
    have HK2 := Lib.hid (HK1.out.trans k2)
    clear o2 b2 k2
    go_wp2
    go_ret
    exact ⟨_, rfl, H2.out, HB2.out, HK2.out⟩
  · have hd : data b = [b.toUInt8] := by unfold data; rw [if_neg h5]
    have hq : ((b : Int) == 255) = false := by rw [beq_eq_false_iff_ne]; omega
    have HD := Lib.hid hd
    have HN := Lib.hid (show [Value.int .u8 (b : Int)] = Lib.byteCells [b.toUInt8] by simp [Lib.byteCells]; omega)
    clear hd
    go_enter Try.func39, Try.ntmps39
    go_wp2_with (at_builtin; refine wpList_app rfl _ _ rfl B v acc 1 [.int .u8 b] [b.toUInt8] HN.out rfl rfl rfl HO.out (by simp; omega) hB ?_)
    intro v1 w1 o1 b1 k1
    have H1 := Lib.hid o1
    have HB1 := Lib.hid b1
    have HK1 := Lib.hid k1
    clear o1 b1 k1
    go_wp2
    go_ret
    exact ⟨_, rfl, by rw [HD.out]; exact H1.out, HB1.out, HK1.out⟩

/-- A writer stands in this block: its whole bytes, the number of the bits that were begun, and how many bits were put. -/
def Wr (B k : Nat) (out : List UInt8) (part put : Nat) (w : World) : Prop :=
  B ≤ k ∧ ∃ v, w.heap[k]? = some (.cells #[v, .int .i64 part, .int .i64 put] 69 (0, 0)) ∧ Owns B v out w
/-- A writer whose bytes this value is. -/
def WrV (k : Nat) (v : Value) (part put : Nat) (w : World) : Prop := w.heap[k]? = some (.cells #[v, .int .i64 part, .int .i64 put] 69 (0, 0))
section
variable {B k : Nat} {v : Value} {part put : Nat} {w w' : World}
theorem WrV.cOut (h : WrV k v part put w) : w.cell? ⟨k, 0, none⟩ = some v := by unfold WrV at h; simp [World.cell?, h]
theorem WrV.cPart (h : WrV k v part put w) : w.cell? ⟨k, 1, none⟩ = some (.int .i64 part) := by unfold WrV at h; simp [World.cell?, h]
theorem WrV.cPut (h : WrV k v part put w) : w.cell? ⟨k, 2, none⟩ = some (.int .i64 put) := by unfold WrV at h; simp [World.cell?, h]
theorem WrV.free (h : WrV k v part put w) (o : Nat) : w.frozen? ⟨k, o, none⟩ = false := by unfold WrV at h; simp [World.frozen?, h]
theorem WrV.lt (h : WrV k v part put w) : k < w.heap.size := (Array.getElem?_eq_some_iff.1 h).1
theorem WrV.on (h : WrV k v part put w) (hb : Below w.heap.size w w') : WrV k v part put w' := (hb.block k h.lt).trans h
theorem WrV.kept (h : WrV k v part put w) (hb : Lib.OthersKept 5 none w w') : WrV k v part put w' := hb k _ h (by simp) (fun c fz => by simp)
theorem WrV.setOut (h : WrV k v part put w) (u : Value) : WrV k u part put (w.setCell ⟨k, 0, none⟩ u) := by
  unfold WrV at h ⊢; simp [World.setCell, Array.getElem?_modify, h]
theorem WrV.setPart (h : WrV k v part put w) (x : Nat) (z : Int) (hz : z = x) : WrV k v x put (w.setCell ⟨k, 1, none⟩ (.int .i64 z)) := by
  subst hz; unfold WrV at h ⊢; simp [World.setCell, Array.getElem?_modify, h]
theorem WrV.setPut (h : WrV k v part put w) (x : Nat) (z : Int) (hz : z = x) : WrV k v part x (w.setCell ⟨k, 2, none⟩ (.int .i64 z)) := by
  subst hz; unfold WrV at h ⊢; simp [World.setCell, Array.getElem?_modify, h]
/-- A store into the writer's block leaves its row as it is. -/
theorem Owns.setCell {u : Value} {acc : List UInt8} (h : Owns B u acc w) (hw : WrV k v part put w) (o : Nat) (x : Value) : Owns B u acc (w.setCell ⟨k, o, none⟩ x) := by
  refine World.ownsRow.kept h (((But.refl k w).setCell o x).grown) (.inr ?_)
  intro e
  obtain ⟨c, fz, hc⟩ := Lib.ownsRow_kind h k e
  unfold WrV at hw
  rw [hw] at hc
  simp at hc
end
theorem OthersKept.some {w w' : World} (k : Nat) (h : Lib.OthersKept 5 none w w') : Lib.OthersKept 5 (some k) w w' := fun j o hj _ ho => h j o hj (by simp) ho

set_option maxHeartbeats 400000 in
theorem NewWriter_any (w : World) : Calls Try.prog 11 #[] w fun e w' => e = .returned (.pointer (some ⟨w.heap.size, 0, none⟩)) ∧ Wr w.heap.size w.heap.size [] 0 0 w' ∧ Below w.heap.size w w' := by
  go_enter Try.func11, Try.ntmps11
  go_wp2
  go_ret
  exact ⟨rfl, ⟨Nat.le_refl _, _, heap_alloc_new _ _, World.ownsRow_nil _ _ _ _⟩, (Below.refl _ _).alloc (Nat.le_refl _) _⟩
set_option maxHeartbeats 400000 in
theorem begun_any (k : Nat) (v : Value) (part put : Nat) (w : World) (h : WrV k v part put w) (hp : put < 4611686018427387904) : Calls Try.prog 38 #[.pointer (some ⟨k, 0, none⟩)] w fun e w' => e = .returned (.int .i64 (put % 8 : Nat)) ∧ w = w' := by
  have h2 := h.cPut
  clear h
  go_enter Try.func38, Try.ntmps38
  go_wp2
  go_ret
  exact ⟨ret_int (by omega), rfl⟩

/-- The byte that fills what was begun. -/
def fillb (part put : Nat) : List UInt8 := if put % 8 = 0 then [] else data (part * 2 ^ (8 - put % 8) + (2 ^ (8 - put % 8) - 1))
theorem fill_or (part f : Nat) (hf1 : 1 ≤ f) (hf : f ≤ 7) (hp : part < 2 ^ (8 - f)) :
    bits .or .i64 (wrap64 ((part : Int) * 2 ^ f)) (wrap64 (wrap64 (2 ^ f) - 1)) = ((part * 2 ^ f + (2 ^ f - 1) : Nat) : Int) ∧ part * 2 ^ f + (2 ^ f - 1) < 256 := by
  have h1 := pow_le24 f (by omega)
  have h2 := Nat.two_pow_pos f
  have e : 2 ^ (8 - f) * 2 ^ f = 256 := by rw [← Nat.pow_add, show 8 - f + f = 8 by omega]
  have h3 : part * 2 ^ f + 2 ^ f ≤ 256 := by rw [← e, ← Nat.succ_mul]; exact Nat.mul_le_mul_right _ hp
  have e2 : (part : Int) * 2 ^ f = ((part * 2 ^ f : Nat) : Int) := by simp
  refine ⟨?_, by omega⟩
  rw [wrap_pow f (by omega), e2, show ((2 ^ f : Nat) : Int) - 1 = ((2 ^ f - 1 : Nat) : Int) by omega, wrap64_nat _ (by omega), wrap64_nat _ (by omega), i64_or_nat _ _ (by omega) (by omega), or_pow _ _ _ (by omega)]

set_option maxHeartbeats 1000000 in
theorem filled_any (B k : Nat) (v u : Value) (acc : List UInt8) (part put : Nat) (w : World) (h : WrV k v part put w) (ho : Owns B u acc w) (hB : B ≤ w.heap.size) (hlen : acc.length ≤ 1000000)
    (hp : put < 4611686018427387904) (hpart : part < 2 ^ (put % 8)) :
    Calls Try.prog 33 #[.pointer (some ⟨k, 0, none⟩), u] w fun e w' => ∃ u', e = .returned u' ∧ Owns B u' (acc ++ fillb part put) w' ∧ Below B w w' ∧ Lib.OthersKept 5 none w w' := by
  have h1 := h.cPart
  have HW := Lib.hid h
  have HO := Lib.hid ho
  clear h ho
  by_cases h0 : put % 8 = 0
  · have HF := Lib.hid (show fillb part put = [] by unfold fillb; rw [if_pos h0])
    have hC := begun_any k v part put w HW.out hp
    rw [h0] at hC
    have HC := Lib.hid hC
    clear hC h0 hpart
    go_enter Try.func33, Try.ntmps33
    go_wp2_with (go_at_call 38; refine HC.out.mono ?_; rintro e w' ⟨rfl, rfl⟩)
    go_ret
    exact ⟨_, rfl, by rw [HF.out, List.append_nil]; exact HO.out, Below.refl _ _, Lib.OthersKept.refl _ _ _⟩
  · have hfo := fill_or part (8 - put % 8) (by omega) (by omega) (by rw [show 8 - (8 - put % 8) = put % 8 by omega]; exact hpart)
    have HF := Lib.hid (show fillb part put = data (part * 2 ^ (8 - put % 8) + (2 ^ (8 - put % 8) - 1)) by unfold fillb; rw [if_neg h0])
    have hC := begun_any k v part put w HW.out hp
    have h8 : put % 8 < 8 := Nat.mod_lt _ (by omega)
    clear hpart
    generalize fillb part put = FB at *
    generalize put % 8 = r at *
    have h0' : ((r : Int) == 0) = false := by rw [beq_eq_false_iff_ne]; omega
    obtain ⟨f, hf⟩ : ∃ f, f = 8 - r := ⟨_, rfl⟩
    rw [← hf] at hfo HF
    have hsub : (8 : Int) - (r : Int) = (f : Int) := by omega
    have hX := hfo.1
    have hXl := hfo.2
    generalize part * 2 ^ f + (2 ^ f - 1) = X at hX hXl HF
    have HX := Lib.hid hX
    have HC := Lib.hid hC
    clear hC h0 hfo hX hf
    go_enter Try.func33, Try.ntmps33
    go_wp2_with (go_at_call 38; refine HC.out.mono ?_; rintro e w' ⟨rfl, rfl⟩)
    have hv : IntKind.u8.wrap (bits .or .i64 (IntKind.i64.wrap ((part : Int) * 2 ^ f)) (IntKind.i64.wrap (IntKind.i64.wrap (2 ^ f) - 1))) = (X : Int) := by
      simp only [IntWalk.i64_left]
      rw [HX.out]
      simp only [IntKind.wrap, IntKind.bits, IntKind.signed]
      simp
      omega
    have HV := Lib.hid hv
    have HA := Lib.hid (appendData_any B u acc X hXl w.drew HO.out hlen hB)
    clear hv
    go_region_with (go_at_call 39; rw [HV.out]; refine HA.out.mono ?_; rintro e w' ⟨v', rfl, o1, b1, k1⟩)
    all_goals
      have HO1 := Lib.hid o1
      have HB1 := Lib.hid b1
      have HK1 := Lib.hid k1
      clear o1 b1 k1
      go_wp2
      go_ret
      exact ⟨_, rfl, by rw [HF.out]; exact HO1.out, Below.trans (b := w.drew) ⟨rfl, rfl, rfl, Nat.le_refl _, fun _ _ => rfl⟩ HB1.out, HK1.out⟩
end Go.Proofs.Ytmoennlpendknaa
