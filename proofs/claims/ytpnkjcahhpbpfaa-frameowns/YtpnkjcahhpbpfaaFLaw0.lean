/- Walk of the law's own: parts. -/
import Derived.Test.YtpnkjcahhpbpfaaFNew0
namespace Go.Proofs.Ytpnkjcahhpbpfaa
open Go.RowKit

/-- The same of one operation. -/
theorem wp_appR {α : Type} {cs : α → Array Value} {n : Nat} (hn : ∀ a, (cs a).size = n) (h1 : ∀ a, (cs a).all (·.oneCell') = true) {T S : TypeId} (z : Value) (m : Nat) (hi : (Try.prog.info? T).map (fun i => (i.zero, i.size, i.bytes)) = some (some z, n, m)) (hz : z.cells.size = n) (hn0 : 0 < n) (hm : m ≤ 1000) (hS : Try.prog.underlying S = some (.slice T))
    {o : Oper} {a : Act} {K : Act → World → Prop} {Q : Exit → Act → World → Prop} {w0 : World} (s x : Operand)
    (ho : o.op = .call { callee := .builtin .append, args := #[s, x], argTypes := #[S, S] })
    (B : Nat) (v : Value) (acc : List α) (e : α) (hs : a.eval s = v) (k : Nat) (hk : k = w0.heap.size) (hx : a.eval x = .slice (some ⟨k, 0, none⟩) 1 1)
    (hown : OwnR T n cs B v acc w0) (hlen : acc.length ≤ 1000000) (hB : B ≤ w0.heap.size)
    (h : ∀ v' w', OwnR T n cs B v' (acc ++ [e]) w' → Below B w0 w' → Lib.OthersKept T none w0 w' → K (a.put o.dst v') w') :
    o.wp Try.prog a (w0.alloc (.cells (cs e) T)) K Q := by
  subst hk
  obtain ⟨i0, hi0, hz0, hz1, hz2⟩ := info_parts hi
  refine wp_append_own _ s x S ho B T i0 z n m hS hi0 hz0 hz1 hz2 hz hn0 v acc.length (rowC cs acc) hs (World.ownsRow.alloc hown _) ⟨w0.heap.size, 0, none⟩ 1 1 (cs e).toList hx (by rw [Array.length_toList, hn]; omega) ?_ ?_ (by unfold maxLen; omega) ?_ (by simp; omega) ?_
  · intro j u hj
    rw [add_none, Nat.zero_add, cell_of_row _ w0.heap.size j _ T (0, 0) (heap_alloc_new w0 _)]
    simpa using hj
  · intro u hu
    have := h1 e
    rw [Array.all_eq_true_iff_forall_mem] at this
    exact this u (by simpa using hu)
  · have := Nat.mul_le_mul (show acc.length + 1 ≤ 1000001 by omega) hm
    omega
  · intro v' w' hown' hg _
    have ho2 := World.ownsRow.alloc hown (.cells (cs e) T)
    refine h v' w' ?_ (((Below.refl B w0).alloc hB _).grown hg (by simp; omega) (fun k hk => (ho2.lt k hk).1)) (((Lib.OthersKept.refl T none w0).alloc _).grown hg (Lib.ownsRow_kind ho2))
    unfold OwnR
    rw [List.length_append, rowC_append, rowC_one]
    exact hown'
/-- The same as a step of a drawn region. -/
theorem step_appR {α : Type} {cs : α → Array Value} {n : Nat} (hn : ∀ a, (cs a).size = n) (h1 : ∀ a, (cs a).all (·.oneCell') = true) {T S : TypeId} (z : Value) (m : Nat) (hi : (Try.prog.info? T).map (fun i => (i.zero, i.size, i.bytes)) = some (some z, n, m)) (hz : z.cells.size = n) (hn0 : 0 < n) (hm : m ≤ 1000) (hS : Try.prog.underlying S = some (.slice T))
    {ops : Array Oper} {E : Prop} {o : Oper} {a : Act} {K : Act → World → Prop} {Q : Exit → Act → World → Prop} {w0 : World} (hgd : o.guard = none) (s x : Operand)
    (ho : o.op = .call { callee := .builtin .append, args := #[s, x], argTypes := #[S, S] })
    (B : Nat) (v : Value) (acc : List α) (e : α) (hs : a.eval s = v) (k : Nat) (hk : k = w0.heap.size) (hx : a.eval x = .slice (some ⟨k, 0, none⟩) 1 1)
    (hown : OwnR T n cs B v acc w0) (hlen : acc.length ≤ 1000000) (hB : B ≤ w0.heap.size)
    (h : ∀ v' w', OwnR T n cs B v' (acc ++ [e]) w' → Below B w0 w' → Lib.OthersKept T none w0 w' → K (a.put o.dst v') w') :
    if Region.wanted o (yielded ops a.tmps) = true then Oper.wp Try.prog o a (w0.alloc (.cells (cs e) T)) K Q else E := by
  have hw : Region.wanted o (yielded ops a.tmps) = true := by simp [Region.wanted, hgd]
  rw [if_pos hw]
  exact wp_appR hn h1 z m hi hz hn0 hm hS s x ho B v acc e hs k hk hx hown hlen hB h
set_option maxHeartbeats 8000000 in
theorem parts_any (v : Value) (l : List FP) (hl : l.length ≤ 1000) (w : World) (hv : RowV 2 cellsF v l w) :
    Calls Try.prog 9 #[v] w fun e w' => ∃ u, e = .returned u ∧ OwnR 62 2 cellsF w.heap.size u l w' ∧ Below w.heap.size w w' := by
  obtain ⟨p, m, c, rfl, hm⟩ := hv.shape
  have HV := Lib.hid hv
  have HM := Lib.hid hm.out
  have hm2 : m ≤ 1000 := by rw [hm.out]; exact hl
  clear hv hm hl
  go_enter Try.func9, Try.ntmps9
  go_wp2
  go_loopw [3, 4] (fun u i wr => ∃ j : Nat, i = .int .i64 j ∧ j ≤ m ∧ OwnR 62 2 cellsF w.heap.size u (l.take j) wr ∧ Below w.heap.size w wr) (fun _ i _ => m - (intOf i).toNat)
  case atStart => exact ⟨0, rfl, Nat.zero_le _, OwnR.nil, Below.refl _ _⟩
  case round =>
    obtain ⟨j, rfl, hj, ho, hb⟩ := hrel
    have HB := Lib.hid hb
    have HO := Lib.hid ho
    obtain ⟨q, n, cc, rfl, hn⟩ := ho.shape
    clear hb ho hn
    by_cases hlt : j < m
    · have hjl : j < l.length := by rw [← HM.out]; exact hlt
      obtain ⟨b, o, c', hvv, hbl, hc⟩ := (HV.out.on cellsF_size HB.out).lies (by omega)
      simp only [Value.slice.injEq] at hvv
      obtain ⟨rfl, hy1, hy2⟩ := hvv
      clear hy1 hy2
      obtain ⟨x0, x1⟩ := fac_cells hc hjl
      have HS : Hid (l.take (j + 1) = l.take j ++ [(l[j].1, l[j].2)]) := by unfold Hid; rw [List.take_succ_eq_append_getElem hjl]
      have HLN : Hid ((l.take j).length ≤ 1000000) := by unfold Hid; rw [List.length_take]; omega
      generalize l[j].1 = a0 at *
      generalize l[j].2 = a1 at *
      generalize l.take j = L at *
      have hjm : (j : Int) < (m : Int) := by omega
      clear hc hbl hjl
      have HOD : Hid (OwnR 62 2 cellsF w.heap.size (.slice q n cc) L wr.drew) := HO.out
      have hBs : w.heap.size ≤ wr.drew.heap.size := HB.out.size
      have HBD : Hid (Below w.heap.size w wr.drew) := HB.out.drew
      go_wp2
      go_region_law (refine step_appR cellsF_size cellsF_one _ _ info62 (cellsF_size _) (by decide) (by decide) Try.underlying28 rfl _ _ rfl w.heap.size (.slice q n cc) L (a0, a1) rfl wr.drew.heap.size rfl rfl HOD.out HLN.out hBs ?_; intro v4 w4 ho hb hk; have HO4 := Lib.hid ho; have HB4 := Lib.hid hb; clear ho hb hk)
      all_goals
        go_wp2
        go_roundw
        case rel => exact ⟨j + 1, by go_num, by omega, by rw [HS.out]; exact HO4.out, HBD.out.trans HB4.out⟩
        case measure => simp [intOf]; omega
    · obtain rfl : j = m := by omega
      have HF : Hid (l.take j = l) := by unfold Hid; rw [HM.out, List.take_length]
      have HO2 := HO.out
      rw [HF.out] at HO2
      have HO3 := Lib.hid HO2
      clear HO2
      go_wp2
      go_ret
      exact ⟨_, rfl, HO3.out, HB.out⟩
end Go.Proofs.Ytpnkjcahhpbpfaa
