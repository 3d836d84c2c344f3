/- Tables of codes: read. -/
import Derived.Test.YtfohgocdabgbgaaDoorSHuff2
namespace Go.Proofs.YtfohgocdabgbgaaDoor
open Go.RowKit

theorem size70 : (Tryd.prog.info? 70).map (·.size) = some 1 := by kernel_rfl
set_option maxHeartbeats 2000000 in
theorem huffs_two (B k c : Nat) (s : ByteArray) (hs : s.size ≤ 65533) (w : World) (h : Rdd B k c s (0, 0) w) :
    Calls Tryd.prog 43 #[.pointer (some ⟨k, 0, none⟩)] w fun e w' => ∃ v, e = .returned (.agg #[v]) ∧ OwnR 74 19 cellsH B v (rall (rhuff s) s (0, 0)).1 w' ∧ Rdd B k c s (rall (rhuff s) s (0, 0)).2 w' ∧ Two k c w w' := by
  have hmx : s.size ≤ maxLen := by unfold maxLen; omega
  have HQ := Lib.hid fun p x hx => huff_two B k c s hmx p x hx
  have HM := Lib.hid fun p x hx => more_two B k c s hmx p x hx
  have H0 := Lib.hid (h.on (below_new w (.cells #[.slice none 0 0] 70)))
  have HK := Lib.hid (show True ∧ True ∧ w.heap.size ≠ k ∧ w.heap.size ≠ c ∧ B ≤ w.heap.size from ⟨trivial, trivial, by have := h.lt; omega, by have := h.cur.lt; omega, by have := h.lt; have := h.bk; omega⟩)
  have HSZ := Lib.hid hs
  generalize hL : (rall (rhuff s) s (0, 0)).1 = L
  generalize hP : (rall (rhuff s) s (0, 0)).2 = P
  have HL := Lib.hid hL
  have HP := Lib.hid hP
  clear h hmx hL hP hs
  go_enter Tryd.func43, Tryd.ntmps43
  go_wp2_with (first
    | (go_at_call 59; refine (HQ.out _ _ H0.out).mono ?_; rintro e w1 ⟨rfl, hr, hb⟩; have H1 := Lib.hid hr; have HB1 := Lib.hid hb; clear hr hb)
    | refine wpList_bsR _ _ zero74 (by decide) (by decide) Tryd.underlying68 rfl _ rfl (cellsH (rhuff s (0, 0)).1) (cellsH_size _) rfl ?_)
  go_loopw [3] (fun v wr => ∃ f done p, QL 74 19 cellsH (rhuff s) #[.slice none 0 0] 70 B k c s L P w f v wr done p) (fun v _ => s.size + 2 - lenV v)
  case atStart => exact ⟨_, _, _, QL.start cellsH_size (rhuff_adv s) H1.out HB1.out ⟨HK.out.2.2.1, HK.out.2.2.2.1, HK.out.2.2.2.2⟩ HL.out HP.out⟩
  case round =>
    obtain ⟨f, done, p, hQ⟩ := hrel
    have HQL := Lib.hid hQ
    obtain ⟨q, m, cc, rfl, hm⟩ := hQ.own.shape
    have HLN := Lib.hid hm
    have HMQ := Lib.hid (HM.out p wr hQ.rd)
    have hm0 := hQ.sum
    have hle : done.length ≤ 70000 := by have := hQ.sum; have := HSZ.out; omega
    clear hQ hm
    by_cases hmo : rmore s p = true
    · have HMO := Lib.hid hmo
      rw [hmo] at HMQ
      clear hmo hm0
      go_wp2_with (first
        | (go_at_call 60; refine HMQ.out.mono ?_; rintro e w2 ⟨rfl, hr, hb⟩; have H2 := Lib.hid hr; have HB2 := Lib.hid hb; clear hr hb HMQ)
        | (go_at_call 59; refine (HQ.out _ _ H2.out).mono ?_; rintro e w3 ⟨rfl, hr, hb⟩; have H3 := Lib.hid hr; have HB3 := Lib.hid (HB2.out.trans hb); clear hr hb)
        | refine wpList_bsR _ _ zero74 (by decide) (by decide) Tryd.underlying68 rfl _ rfl (cellsH (rhuff s p).1) (cellsH_size _) rfl ?_
        | (at_builtin; refine wpList_appR cellsH_size cellsH_one _ _ zero74 (cellsH_size _) (by decide) (by decide) Tryd.underlying68 rfl _ _ rfl w.heap.size (.slice q m cc) done (rhuff s p).1 rfl w3.heap.size rfl rfl (HQL.out.own.rdd HQL.out.rd HB3.out (by decide) (by decide)) (by omega) (by have := HQL.out.base.2.1; have := HB3.out.size; omega) ?_; intro v4 w4 ho hb hk; have HO4 := Lib.hid ho; have HB4 := Lib.hid hb; have HK4 := Lib.hid hk; clear ho hb hk))
      obtain ⟨f', hf, hN⟩ := HQL.out.next (rhuff_adv s) HMO.out H3.out HB3.out HO4.out HB4.out HK4.out (by decide) (by decide) (by decide)
      refine ⟨⟨_, _, _, hN⟩, ?_⟩
      have e1 := hN.own.lenV
      have e2 := HQL.out.own.lenV
      have e3 := hN.sum
      rw [e1, e2, List.length_append, List.length_singleton]
      rw [List.length_append, List.length_singleton] at e3
      omega
    · have hmf : rmore s p = false := by simpa using hmo
      have HMO := Lib.hid hmf
      rw [hmf] at HMQ
      have HN0 := Lib.hid hm0
      clear hmo hmf hm0
      go_wp2_with (first
        | (go_at_call 60; refine HMQ.out.mono ?_; rintro e w2 ⟨rfl, hr, hb⟩; have H2 := Lib.hid hr; have HB2 := Lib.hid hb; have hres := (hb.block _ HQL.out.base.2.2.1 HQL.out.base.2.2.2 HQL.out.base.2.1).trans HQL.out.res; have HR2 := Lib.hid hres; have y0 : w2.cell? ⟨w.heap.size, 0, none⟩ = some (.slice none 0 0) := Lib.cell_of_heap hres 0; have z0 := Lib.frozen_of_heap hres 0; clear hr hb HMQ hres))
      have hF : (w2.setCell ⟨w.heap.size, 0, none⟩ (.slice q m cc)).heap[w.heap.size]? = some (.cells #[.slice q m cc] 70 (0, 0)) := by
        have := HR2.out
        simp [World.setCell, Array.getElem?_modify, this]
      have hB := HQL.out.base
      have e1 := HQL.out.all.1
      have e2 := HQL.out.all.2
      rw [rlist_no HMO.out] at e1 e2
      simp only [List.append_nil] at e1 e2
      refine bodyPost_ret_by (results_cell_row rfl _ _ w.heap.size 70 _ (0, 0) _ rfl hF Tryd.underlying70 rfl size70) rfl ⟨_, rfl, ?_, ?_, ?_⟩
      · rw [e1]
        exact OwnR.mono ((HQL.out.own.rdd HQL.out.rd HB2.out (by decide) (by decide)).setCell HR2.out (by decide)) HK.out.2.2.2.2
      · rw [e2]
        exact H2.out.keep (heap_setCell_other _ _ _ _ (Ne.symm hB.2.2.1)) (heap_setCell_other _ _ _ _ (Ne.symm hB.2.2.2))
      · exact Two.cell (HQL.out.low.trans HB2.out) (Nat.le_refl _) _
end Go.Proofs.YtfohgocdabgbgaaDoor
