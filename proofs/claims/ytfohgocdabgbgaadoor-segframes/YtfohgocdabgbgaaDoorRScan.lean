/- The document's scan's beginning: the walk. -/
import Derived.Test.YtfohgocdabgbgaaDoorRSeg
import Derived.Test.YtfohgocdabgbgaaDoorRHuff
namespace Go.Proofs.YtfohgocdabgbgaaDoor
open Go.RowKit

/-- What the document's reading of a scan's beginning answers. -/
def ScanPost (z : Int) (s : ByteArray) (w : World) (e : Ending) (w' : World) : Prop :=
  ((escan s = 0 ∧ ∃ u, e = .returned (.tuple #[.agg (sg z 0 0 (.slice none 0 0) u ((rscan s (0, 0)).1.2.1 : Nat) ((rscan s (0, 0)).1.2.2.1 : Nat) ((rscan s (0, 0)).1.2.2.2.1 : Nat) ((rscan s (0, 0)).1.2.2.2.2 : Nat)), .int .i64 0]) ∧ OwnR 118 3 cellsK w.heap.size u (rscan s (0, 0)).1.1 w') ∨ (escan s ≠ 0 ∧ ∃ sc : Array Value, sc.size = 13 ∧ sc.all (·.oneCell') = true ∧ e = .returned (.tuple #[.agg sc, .int .i64 (escan s : Nat)]))) ∧ Below w.heap.size w w'
theorem escan_pk {s : ByteArray} {e n : Nat} (h : 0 < s.size) (hn : s[0].toNat = n) (h1 : 1 ≤ n) (h4 : n ≤ 4) (hp : (rpk s (1, 0) n).2.2 = e) (he : e ≠ 0) : escan s = e := by
  subst hn
  refine escan_err ?_ he
  rw [rscan_in h h1 h4]
  show (rtail s (rpk s (1, 0) s[0].toNat).2).2.2 = e
  rw [rtail_err (by rw [hp]; exact he)]
  exact hp
theorem escan_tail {s : ByteArray} {e n p : Nat} {l : List KT} (h : 0 < s.size) (hn : s[0].toNat = n) (h1 : 1 ≤ n) (h4 : n ≤ 4) (hp : rpk s (1, 0) n = (l, (p, 0))) (ht : (rtail s (p, 0)).2.2 = e) (he : e ≠ 0) : escan s = e := by
  subst hn
  refine escan_err ?_ he
  rw [rscan_in h h1 h4, hp]
  exact ht
theorem escan_in {s : ByteArray} {n p : Nat} {l : List KT} {X : (Nat × Nat × Nat × Nat) × (Nat × Nat)} (h : 0 < s.size) (hn : s[0].toNat = n) (h1 : 1 ≤ n) (h4 : n ≤ 4) (hp : rpk s (1, 0) n = (l, (p, 0))) (ht : rtail s (p, 0) = X) : rscan s (0, 0) = ((l, X.1), X.2) := by
  subst hn
  rw [rscan_in h h1 h4, hp, ht]

set_option maxRecDepth 100000 in
set_option maxHeartbeats 8000000 in
theorem scan_any (z : Int) (s : ByteArray) (hs : s.size ≤ 65533) (w : World) :
    Calls Tryd.prog 36 #[.agg (sg z 0 0 (.slice none 0 0) (.slice none 0 0) 0 0 0 0), .string s] w fun e w' => ScanPost z s w e w' := by
  have HBY := Lib.hid fun p (z : Int) (hz : z = (p : Nat)) x => (show Calls Tryd.prog 55 #[.string s, .int .i64 z] x fun e w' => e = .returned (.int .i64 (rby s p)) ∧ x = w' from by rw [hz]; exact byteAt_any s p x)
  have HB0 : Hid (∀ Z : Array Value, Z.size = 13 → ∀ x, x = (w.alloc (.cells (sg z 0 0 (.slice none 0 0) (.slice none 0 0) 0 0 0 0) 38)).alloc (.cells Z 38) → Calls Tryd.prog 55 #[.string s, .int .i64 0] x fun e w' => e = .returned (.int .i64 (rby s 0)) ∧ SG 118 3 cellsK (sg z 0 0 (.slice none 0 0) (.slice none 0 0) 0 0 0 0) (.slice none 0 0) [] w w') := by
    intro Z hZ x hx
    refine (byteAt_any s 0 x).mono ?_
    rintro e w' ⟨h1, rfl⟩
    refine ⟨h1, ?_⟩
    rw [hx]
    exact SG.start _ _ hZ
  go_enter Tryd.func36, Tryd.ntmps36
  by_cases h0 : 0 < s.size
  · have e0 : rby s 0 = (s[0].toNat : Int) := by unfold rby; rw [dif_pos h0]
    rw [e0] at HB0
    have HBAD := Lib.hid (fun hb => rscan_bad h0 hb)
    have HPK := Lib.hid fun e n (hn : s[0].toNat = n) h1 h4 hp he => escan_pk (e := e) h0 hn h1 h4 hp he
    have HTL := Lib.hid fun e n p l (hn : s[0].toNat = n) h1 h4 hp ht he => escan_tail (e := e) (p := p) (l := l) h0 hn h1 h4 hp ht he
    have HIN := Lib.hid fun n p l X (hn : s[0].toNat = n) h1 h4 hp ht => escan_in (p := p) (l := l) (X := X) h0 hn h1 h4 hp ht
    have hb := s[0].toNat_lt
    generalize s[0].toNat = N at *
    clear e0
    by_cases hbad : N < 1 ∨ 4 < N
    · have HE := Lib.hid fun _ : Unit => HBAD.out hbad
      clear HBAD HPK HTL HIN HBY
      by_cases h1 : N < 1
      · clear hbad
        go_wp2_with (first
          | (go_at_call 55; refine (HB0.out _ (by kernel_rfl) _ rfl).mono ?_; rintro e w2 ⟨rfl, h⟩; have H1 := Lib.hid h; clear h HB0)
          | refine wpList_load_row rfl 38 _ rfl w.heap.size rfl 38 _ (0, 0) _ H1.out.seg Tryd.underlying38 rfl (size38 _ rfl) ?_
          | (refine wpList_retS H1.out rfl (sg_one _ _ _ _ _ _ _ _ _ _ _ _ _) rfl _ _ rfl rfl rfl ?_; intro wf hf ho hb; have HFF := Lib.hid hf; have HOF := Lib.hid ho; have HBF := Lib.hid hb; clear hf ho hb))
        refine bodyPost_ret_by (results_row_tmp rfl _ _ (w.heap.size + 1) _ rfl (run_loadVar_row _ (w.heap.size + 1) 38 38 _ (0, 0) _ HFF.out Tryd.underlying38 rfl (size38 _ rfl)) _ rfl) rfl ⟨.inr ⟨by rw [HE.out ()]; decide, _, rfl, sg_one _ _ _ _ _ _ _ _ _ _ _ _ _, by rw [HE.out ()]; rfl⟩, HBF.out⟩
      · have h2 : 4 < N := by omega
        clear hbad
        go_wp2_with (first
          | (go_at_call 55; refine (HB0.out _ (by kernel_rfl) _ rfl).mono ?_; rintro e w2 ⟨rfl, h⟩; have H1 := Lib.hid h; clear h HB0)
          | refine wpList_load_row rfl 38 _ rfl w.heap.size rfl 38 _ (0, 0) _ H1.out.seg Tryd.underlying38 rfl (size38 _ rfl) ?_
          | (refine wpList_retS H1.out rfl (sg_one _ _ _ _ _ _ _ _ _ _ _ _ _) rfl _ _ rfl rfl rfl ?_; intro wf hf ho hb; have HFF := Lib.hid hf; have HOF := Lib.hid ho; have HBF := Lib.hid hb; clear hf ho hb))
        refine bodyPost_ret_by (results_row_tmp rfl _ _ (w.heap.size + 1) _ rfl (run_loadVar_row _ (w.heap.size + 1) 38 38 _ (0, 0) _ HFF.out Tryd.underlying38 rfl (size38 _ rfl)) _ rfl) rfl ⟨.inr ⟨by rw [HE.out ()]; decide, _, rfl, sg_one _ _ _ _ _ _ _ _ _ _ _ _ _, by rw [HE.out ()]; rfl⟩, HBF.out⟩
    · have h1 : 1 ≤ N := by omega
      have h4 : N ≤ 4 := by omega
      have HN1 := Lib.hid h1
      have HN4 := Lib.hid h4
      have hn1 : ¬ (N : Int) < 1 := by omega
      have hn4 : ¬ (4 : Int) < (N : Int) := by omega
      clear hbad HBAD
      go_wp2_with (go_at_call 55; refine (HB0.out _ (by kernel_rfl) _ rfl).mono ?_; rintro e w2 ⟨rfl, h⟩; have H1 := Lib.hid h; clear h HB0)
      go_loopw [7] (fun kv wr => ∃ k : Nat, kv = .int .i64 k ∧ k ≤ N ∧ ∃ l p m c, rpk s (1, 0) k = (l, (1 + 2 * k, 0)) ∧ l.length = k ∧ 1 + 2 * k ≤ s.size ∧ SG 118 3 cellsK (sg z 0 0 (.slice none 0 0) (.slice p m c) 0 0 0 0) (.slice p m c) l w wr) (fun kv _ => 4 - (intOf kv).toNat)
      case atStart => exact ⟨0, rfl, Nat.zero_le _, [], none, 0, 0, rfl, rfl, h0, H1.out⟩
      case round =>
        obtain ⟨k, rfl, hk, l, p, m, c, hpk, hl, hle, hS⟩ := hrel
        have HS := Lib.hid hS
        have HP := Lib.hid fun _ : Unit => hpk
        have HL := Lib.hid hl
        have hm : m = l.length := by
          obtain ⟨p', m', c', e, h⟩ := hS.own.shape
          simp only [Value.slice.injEq] at e
          rw [e.2.1]
          exact h.out
        clear hm
        have x7 : wr.cell? ⟨w.heap.size, 7, none⟩ = some (.slice p m c) := hS.get 7
        have x8 := hS.free 7
        have HV := Lib.hid (hS.own.view cellsK_size)
        clear hS hpk H1
        by_cases hlt : k < N
        · have HLT := Lib.hid hlt
          have HA := Lib.hid fun (z : Int) (hz : z = ((1 + 2 * k : Nat) : Int)) x => HBY.out _ z hz x
          have HB := Lib.hid fun (z : Int) (hz : z = ((1 + 2 * k + 1 : Nat) : Int)) x => HBY.out _ z hz x
          have r1 := read1b s (1 + 2 * k) hle
          have r2 := fun h => read1b s (1 + 2 * k + 1) h
          generalize rby s (1 + 2 * k) = N1 at *
          generalize rby s (1 + 2 * k + 1) = N2 at *
          have HR2 := Lib.hid r2
          clear r2 HBY HTL HIN
          rcases r1 with ⟨rfl, hr⟩ | ⟨n, hn, rfl, hr, hle2⟩
          · have HE := Lib.hid fun _ : Unit => HPK.out 4 N rfl HN1.out HN4.out (rpk_stop (rpk_1 (HP.out ()) hr) (by decide) N HLT.out) (by decide)
            clear hr HPK HR2 hn1 hn4
            go_wp2_with (first
              | (go_at_call 55; refine (HA.out _ (by omega) _).mono ?_; rintro e w2 ⟨rfl, rfl⟩; clear HA)
              | (go_at_call 55; refine (HB.out _ (by omega) _).mono ?_; rintro e w2 ⟨rfl, rfl⟩; clear HB)
              | refine wpList_load_row rfl 38 _ rfl w.heap.size rfl 38 _ (0, 0) _ HS.out.seg Tryd.underlying38 rfl (size38 _ rfl) ?_
              | (refine wpList_retS HS.out rfl (sg_one _ _ _ _ _ _ _ _ _ _ _ _ _) rfl _ _ rfl rfl rfl ?_; intro wf hf ho hb; have HFF := Lib.hid hf; have HOF := Lib.hid ho; have HBF := Lib.hid hb; clear hf ho hb))
            refine bodyPost_ret_by (results_row_tmp rfl _ _ (w.heap.size + 1) _ rfl (run_loadVar_row _ (w.heap.size + 1) 38 38 _ (0, 0) _ HFF.out Tryd.underlying38 rfl (size38 _ rfl)) _ rfl) rfl ⟨.inr ⟨by rw [HE.out ()]; decide, _, rfl, sg_one _ _ _ _ _ _ _ _ _ _ _ _ _, by rw [HE.out ()]; rfl⟩, HBF.out⟩
          · have HR1 := Lib.hid fun _ : Unit => hr
            have HH2 := HR2.out hle2
            have HR3 := Lib.hid HH2
            clear hr HH2 HR2 hn1 hn4
            go_wp2_with (first
              | (go_at_call 55; refine (HA.out _ (by omega) _).mono ?_; rintro e w2 ⟨rfl, rfl⟩; clear HA)
              | (go_at_call 55; refine (HB.out _ (by omega) _).mono ?_; rintro e w2 ⟨rfl, rfl⟩; clear HB))
            go_loop [10] (fun jv => ∃ j : Nat, jv = .int .i64 j ∧ j ≤ k ∧ ∀ i (h : i < l.length), i < j → l[i].1 ≠ (n : Int)) (fun jv => 4 - (intOf jv).toNat)
            case atStart => exact ⟨0, rfl, Nat.zero_le _, fun i _ h => by omega⟩
            case round =>
              obtain ⟨j, rfl, hj, hne⟩ := hrel
              have HNE := Lib.hid hne
              clear hne
              by_cases hjk : j < k
              · have hjl : j < l.length := by rw [HL.out]; exact hjk
                obtain ⟨b, o, cc, hv, _, hc⟩ := HV.out.lies (by omega)
                simp only [Value.slice.injEq] at hv
                obtain ⟨rfl, rfl, rfl⟩ := hv
                have y0 := (pick_cells hc hjl).1
                have hjm : (j : Int) < (l.length : Int) := by omega
                have hkl := HL.out
                have HDUP := Lib.hid fun h : l[j].1 = (n : Int) => (show aheadK l (n : Nat) = true from List.any_eq_true.2 ⟨l[j], List.getElem_mem hjl, by rw [beq_iff_eq]; exact h⟩)
                have HNE2 := Lib.hid fun (h : l[j].1 ≠ (n : Int)) => (show ∀ i (h : i < l.length), i < j + 1 → l[i].1 ≠ (n : Int) from fun i hi hi2 => by
                  by_cases e : i = j
                  · subst e; exact h
                  · exact HNE.out i hi (by omega))
                generalize hvv : l[j].1 = v at *
                clear hc hvv
                by_cases hd : v = (n : Int)
                · have HE := Lib.hid fun _ : Unit => HPK.out 8 N rfl HN1.out HN4.out (rpk_stop (rpk_2 (HP.out ()) (HR1.out ()) (HDUP.out hd)) (by decide) N HLT.out) (by decide)
                  have hd' : (v == (n : Int)) = true := by rw [beq_iff_eq]; exact hd
                  clear hd HDUP HNE2 HPK HR3 hkl
                  go_wp2_with (first
                    | refine wpList_load_row rfl 38 _ rfl w.heap.size rfl 38 _ (0, 0) _ HS.out.seg Tryd.underlying38 rfl (size38 _ rfl) ?_
                    | (refine wpList_retS HS.out rfl (sg_one _ _ _ _ _ _ _ _ _ _ _ _ _) rfl _ _ rfl rfl rfl ?_; intro wf hf ho hb; have HFF := Lib.hid hf; have HOF := Lib.hid ho; have HBF := Lib.hid hb; clear hf ho hb))
                  refine bodyPost_ret_by (results_row_tmp rfl _ _ (w.heap.size + 1) _ rfl (run_loadVar_row _ (w.heap.size + 1) 38 38 _ (0, 0) _ HFF.out Tryd.underlying38 rfl (size38 _ rfl)) _ rfl) rfl ⟨.inr ⟨by rw [HE.out ()]; decide, _, rfl, sg_one _ _ _ _ _ _ _ _ _ _ _ _ _, by rw [HE.out ()]; rfl⟩, HBF.out⟩
                · have hd' : (v == (n : Int)) = false := by rw [beq_eq_false_iff_ne]; exact hd
                  have HN3 := Lib.hid (HNE2.out hd)
                  clear hd HDUP HNE2 hkl
                  go_wp2
                  go_round
                  case rel => exact ⟨j + 1, by go_num, by omega, HN3.out⟩
                  case measure => simp [intOf]; omega
              · have hjk2 : j = k := by omega
                have HAH : Hid (aheadK l (n : Nat) = false) := by
                  unfold Hid
                  rw [Bool.eq_false_iff]
                  intro h
                  obtain ⟨x, hx, h2⟩ := List.any_eq_true.1 h
                  obtain ⟨i, hi, rfl⟩ := List.mem_iff_getElem.1 hx
                  rw [beq_iff_eq] at h2
                  exact HNE.out i hi (by have := HL.out; omega) h2
                have hjk3 : ¬ (j : Int) < (k : Int) := by omega
                clear hjk hj HNE
                rcases HR3.out with ⟨hN2, hr⟩ | ⟨m2, hm2, hN2, hr, hle3⟩
                · subst hN2
                  have HE := Lib.hid fun _ : Unit => HPK.out 4 N rfl HN1.out HN4.out (rpk_stop (rpk_3 (HP.out ()) (HR1.out ()) HAH.out hr) (by decide) N HLT.out) (by decide)
                  clear hr HPK HR3 hjk2
                  go_wp2_with (first
                    | refine wpList_load_row rfl 38 _ rfl w.heap.size rfl 38 _ (0, 0) _ HS.out.seg Tryd.underlying38 rfl (size38 _ rfl) ?_
                    | (refine wpList_retS HS.out rfl (sg_one _ _ _ _ _ _ _ _ _ _ _ _ _) rfl _ _ rfl rfl rfl ?_; intro wf hf ho hb; have HFF := Lib.hid hf; have HOF := Lib.hid ho; have HBF := Lib.hid hb; clear hf ho hb))
                  refine bodyPost_ret_by (results_row_tmp rfl _ _ (w.heap.size + 1) _ rfl (run_loadVar_row _ (w.heap.size + 1) 38 38 _ (0, 0) _ HFF.out Tryd.underlying38 rfl (size38 _ rfl)) _ rfl) rfl ⟨.inr ⟨by rw [HE.out ()]; decide, _, rfl, sg_one _ _ _ _ _ _ _ _ _ _ _ _ _, by rw [HE.out ()]; rfl⟩, HBF.out⟩
                · subst hN2
                  have HRM := Lib.hid fun _ : Unit => hr
                  have e1 : (m2 : Int).tdiv 16 = ((m2 / 16 : Nat) : Int) := rfl
                  have e2 : (m2 : Int).tmod 16 = ((m2 % 16 : Nat) : Int) := rfl
                  have hq1 : m2 / 16 < 16 := by omega
                  have hq2 : m2 % 16 < 16 := by omega
                  clear hr HR3 hjk2
                  by_cases hbad : 3 < m2 / 16 ∨ 3 < m2 % 16
                  · have HE := Lib.hid fun _ : Unit => HPK.out 8 N rfl HN1.out HN4.out (rpk_stop (rpk_4 (HP.out ()) (HR1.out ()) HAH.out (HRM.out ()) hbad) (by decide) N HLT.out) (by decide)
                    clear HPK
                    generalize m2 / 16 = a at *
                    generalize m2 % 16 = b at *
                    by_cases hb1 : 3 < a
                    · clear hbad
                      go_wp2_with (first
                        | refine wpList_load_row rfl 38 _ rfl w.heap.size rfl 38 _ (0, 0) _ HS.out.seg Tryd.underlying38 rfl (size38 _ rfl) ?_
                        | (refine wpList_retS HS.out rfl (sg_one _ _ _ _ _ _ _ _ _ _ _ _ _) rfl _ _ rfl rfl rfl ?_; intro wf hf ho hb; have HFF := Lib.hid hf; have HOF := Lib.hid ho; have HBF := Lib.hid hb; clear hf ho hb))
                      refine bodyPost_ret_by (results_row_tmp rfl _ _ (w.heap.size + 1) _ rfl (run_loadVar_row _ (w.heap.size + 1) 38 38 _ (0, 0) _ HFF.out Tryd.underlying38 rfl (size38 _ rfl)) _ rfl) rfl ⟨.inr ⟨by rw [HE.out ()]; decide, _, rfl, sg_one _ _ _ _ _ _ _ _ _ _ _ _ _, by rw [HE.out ()]; rfl⟩, HBF.out⟩
                    · have hb2 : 3 < b := by omega
                      clear hbad
                      go_wp2_with (first
                        | refine wpList_load_row rfl 38 _ rfl w.heap.size rfl 38 _ (0, 0) _ HS.out.seg Tryd.underlying38 rfl (size38 _ rfl) ?_
                        | (refine wpList_retS HS.out rfl (sg_one _ _ _ _ _ _ _ _ _ _ _ _ _) rfl _ _ rfl rfl rfl ?_; intro wf hf ho hb; have HFF := Lib.hid hf; have HOF := Lib.hid ho; have HBF := Lib.hid hb; clear hf ho hb))
                      refine bodyPost_ret_by (results_row_tmp rfl _ _ (w.heap.size + 1) _ rfl (run_loadVar_row _ (w.heap.size + 1) 38 38 _ (0, 0) _ HFF.out Tryd.underlying38 rfl (size38 _ rfl)) _ rfl) rfl ⟨.inr ⟨by rw [HE.out ()]; decide, _, rfl, sg_one _ _ _ _ _ _ _ _ _ _ _ _ _, by rw [HE.out ()]; rfl⟩, HBF.out⟩
                  · have HNX := Lib.hid fun _ : Unit => rpk_5 (HP.out ()) (HR1.out ()) HAH.out (HRM.out ()) (by omega) (by omega)
                    have ha1 : ¬ 3 < m2 / 16 := by omega
                    have hb1 : ¬ 3 < m2 % 16 := by omega
                    clear hbad HPK HRM
                    generalize m2 / 16 = a at *
                    generalize m2 % 16 = b at *
                    have hkl := HL.out
                    go_wp2_with (at_builtin; refine wpList_appR (cs := cellsK) (T := 118) cellsK_size cellsK_one _ _ info118 (cellsK_size _) (by decide) (by decide) Tryd.underlying36 rfl _ _ rfl w.heap.size (.slice p m c) l (((n : Nat) : Int), ((a : Nat) : Int), ((b : Nat) : Int)) rfl wr.heap.size rfl rfl HS.out.own (by omega) HS.out.low.size ?_; intro v4 w4 ho hb hk; have HS4 := Lib.hid (HS.out.app (by decide) ho hb hk); obtain ⟨p4, m4, c4, rfl, _⟩ := ho.shape; have z7 : w4.cell? ⟨w.heap.size, 7, none⟩ = some (.slice p m c) := HS4.out.get 7; have z8 := HS4.out.free 7; clear ho hb hk)
                    go_roundw
                    case rel => exact ⟨k + 1, by go_num, by omega, _, p4, m4, c4, HNX.out (), by simp [HL.out], by omega, HS4.out.set (by decide) rfl⟩
                    case measure => simp [intOf]; omega
        · have hkN : k = N := by omega
          subst hkN
          have HTT := Lib.hid fun e ht he => HTL.out e k _ _ rfl HN1.out HN4.out (HP.out ()) ht he
          have HII := Lib.hid fun X ht => HIN.out k _ _ X rfl HN1.out HN4.out (HP.out ()) ht
          have hlt' : ¬ (k : Int) < (k : Int) := by omega
          have hpv : 1 + 2 * (k : Int) = ((1 + 2 * k : Nat) : Int) := by omega
          clear HPK HTL HIN hlt hn1 hn4 h1 h4 hk
          generalize 1 + 2 * k = P at *
          have HA := Lib.hid fun (z : Int) (hz : z = (P : Int)) x => HBY.out P z hz x
          have HB := Lib.hid fun (z : Int) (hz : z = ((P + 1 : Nat) : Int)) x => HBY.out (P + 1) z hz x
          have HC := Lib.hid fun (z : Int) (hz : z = ((P + 2 : Nat) : Int)) x => HBY.out (P + 2) z hz x
          clear HBY
          by_cases hsh : s.size < P + 3
          · have HE := Lib.hid fun _ : Unit => HTT.out 4 (rtail_out hsh hle) (by decide)
            have hx : (s.size : Int) < (P : Int) + 3 := by omega
            clear hsh HII HTT
            go_wp2_with (first
              | refine wpList_load_row rfl 38 _ rfl w.heap.size rfl 38 _ (0, 0) _ HS.out.seg Tryd.underlying38 rfl (size38 _ rfl) ?_
              | (refine wpList_retS HS.out rfl (sg_one _ _ _ _ _ _ _ _ _ _ _ _ _) rfl _ _ rfl rfl rfl ?_; intro wf hf ho hb; have HFF := Lib.hid hf; have HOF := Lib.hid ho; have HBF := Lib.hid hb; clear hf ho hb))
            refine bodyPost_ret_by (results_row_tmp rfl _ _ (w.heap.size + 1) _ rfl (run_loadVar_row _ (w.heap.size + 1) 38 38 _ (0, 0) _ HFF.out Tryd.underlying38 rfl (size38 _ rfl)) _ rfl) rfl ⟨.inr ⟨by rw [HE.out ()]; decide, _, rfl, sg_one _ _ _ _ _ _ _ _ _ _ _ _ _, by rw [HE.out ()]; rfl⟩, HBF.out⟩
          · have hx : ¬ (s.size : Int) < (P : Int) + 3 := by omega
            have hb0 := s[P].toNat_lt
            have hb1 := s[P + 1].toNat_lt
            have hb2 := s[P + 2].toNat_lt
            have a0 : rby s P = (s[P].toNat : Int) := by unfold rby; rw [dif_pos (by omega)]
            have a1 : rby s (P + 1) = (s[P + 1].toNat : Int) := by unfold rby; rw [dif_pos (by omega)]
            have a2 : rby s (P + 2) = (s[P + 2].toNat : Int) := by unfold rby; rw [dif_pos (by omega)]
            rw [a0] at HA
            rw [a1] at HB
            rw [a2] at HC
            have hti := rtail_in (s := s) (p := P) (by omega)
            have HTI := Lib.hid fun _ : Unit => hti
            have e1 : ((s[P + 2].toNat : Nat) : Int).tdiv 16 = ((s[P + 2].toNat / 16 : Nat) : Int) := rfl
            have e2 : ((s[P + 2].toNat : Nat) : Int).tmod 16 = ((s[P + 2].toNat % 16 : Nat) : Int) := rfl
            have hq1 : s[P + 2].toNat / 16 < 16 := by omega
            have hq2 : s[P + 2].toNat % 16 < 16 := by omega
            clear hti a0 a1 a2
            generalize s[P + 2].toNat / 16 = h at *
            generalize s[P + 2].toNat % 16 = lo at *
            generalize s[P + 2].toNat = M at *
            generalize s[P + 1].toNat = t at *
            generalize s[P].toNat = f at *
            clear x7 x8
            by_cases hok : f ≤ t ∧ t ≤ 63 ∧ h ≤ 13 ∧ lo ≤ 13
            · have HTK := Lib.hid fun _ : Unit => (HTI.out ()).trans (by rw [if_pos hok])
              obtain ⟨o1, o2, o3, o4⟩ := hok
              by_cases hend : s.size = P + 3
              · have HQ := Lib.hid fun _ : Unit => HII.out _ (HTK.out ())
                have hend' : ((s.size : Int) != (P : Int) + 3) = false := by rw [bne_eq_false_iff_eq]; omega
                have HEN := Lib.hid hend
                clear hend HTT HII HTI
                go_wp2_with (first
                  | (go_at_call 55; refine (HA.out _ (by omega) _).mono ?_; rintro e w2 ⟨rfl, rfl⟩; clear HA)
                  | (go_at_call 55; refine (HB.out _ (by omega) _).mono ?_; rintro e w2 ⟨rfl, rfl⟩; clear HB)
                  | (go_at_call 55; refine (HC.out _ (by omega) _).mono ?_; rintro e w2 ⟨rfl, rfl⟩)
                  | (refine wpList_setS HS.out (by decide) rfl _ _ rfl rfl 8 (f : Nat) (sg z 0 0 (.slice none 0 0) (.slice p m c) f 0 0 0) (sg_set8 _ _ _ _ _ _ _ _ _ _) _ (sg_get8 _ _ _ _ _ _ _ _ _) rfl rfl ?_; intro wa8 ha; have HS8 := Lib.hid ha; clear ha HS)
                  | (refine wpList_setS HS8.out (by decide) rfl _ _ rfl rfl 9 (t : Nat) (sg z 0 0 (.slice none 0 0) (.slice p m c) f t 0 0) (sg_set9 _ _ _ _ _ _ _ _ _ _) _ (sg_get9 _ _ _ _ _ _ _ _ _) rfl rfl ?_; intro wa9 ha; have HS9 := Lib.hid ha; clear ha HS8)
                  | (refine wpList_setS HS9.out (by decide) rfl _ _ rfl rfl 10 (h : Nat) (sg z 0 0 (.slice none 0 0) (.slice p m c) f t h 0) (sg_set10 _ _ _ _ _ _ _ _ _ _) _ (sg_get10 _ _ _ _ _ _ _ _ _) rfl rfl ?_; intro wa10 ha; have HS10 := Lib.hid ha; clear ha HS9)
                  | (refine wpList_setS HS10.out (by decide) rfl _ _ rfl rfl 11 (lo : Nat) (sg z 0 0 (.slice none 0 0) (.slice p m c) f t h lo) (sg_set11 _ _ _ _ _ _ _ _ _ _) _ (sg_get11 _ _ _ _ _ _ _ _ _) rfl rfl ?_; intro wa11 ha; have HS11 := Lib.hid ha; have y8 : wa11.cell? ⟨w.heap.size, 8, none⟩ = some (.int .i64 f) := (ha.get 8).trans (sg_get8 _ _ _ _ _ _ _ _ _); have y9 : wa11.cell? ⟨w.heap.size, 9, none⟩ = some (.int .i64 t) := (ha.get 9).trans (sg_get9 _ _ _ _ _ _ _ _ _); have y10 : wa11.cell? ⟨w.heap.size, 10, none⟩ = some (.int .i64 h) := (ha.get 10).trans (sg_get10 _ _ _ _ _ _ _ _ _); have y11 : wa11.cell? ⟨w.heap.size, 11, none⟩ = some (.int .i64 lo) := (ha.get 11).trans (sg_get11 _ _ _ _ _ _ _ _ _); clear ha HS10)
                  | refine wpList_load_row rfl 38 _ rfl w.heap.size rfl 38 _ (0, 0) _ HS11.out.seg Tryd.underlying38 rfl (size38 _ rfl) ?_
                  | (refine wpList_retS HS11.out rfl (sg_one _ _ _ _ _ _ _ _ _ _ _ _ _) rfl _ _ rfl rfl rfl ?_; intro wf hf ho hb; have HFF := Lib.hid hf; have HOF := Lib.hid ho; have HBF := Lib.hid hb; clear hf ho hb))
                refine bodyPost_ret_by (results_row_tmp rfl _ _ (w.heap.size + 1) _ rfl (run_loadVar_row _ (w.heap.size + 1) 38 38 _ (0, 0) _ HFF.out Tryd.underlying38 rfl (size38 _ rfl)) _ rfl) rfl ⟨.inl ⟨by unfold escan; rw [HQ.out ()]; show (rneed (decide (s.size - (P + 3) = 0)) 4 (P + 3, 0)).2 = 0; rw [show decide (s.size - (P + 3) = 0) = true from decide_eq_true (by have := HEN.out; omega), rneed_yes], .slice p m c, by rw [HQ.out ()]; rfl, by rw [HQ.out ()]; exact HOF.out (by decide)⟩, HBF.out⟩
              · have HE := Lib.hid fun _ : Unit => (show escan s = 4 by
                  unfold escan
                  rw [HII.out _ (HTK.out ()), show decide (s.size - (P + 3) = 0) = false from decide_eq_false (by omega), rneed_no rfl])
                have hend' : ((s.size : Int) != (P : Int) + 3) = true := by rw [bne_iff_ne]; omega
                clear hend HTT HII HTI
                go_wp2_with (first
                  | (go_at_call 55; refine (HA.out _ (by omega) _).mono ?_; rintro e w2 ⟨rfl, rfl⟩; clear HA)
                  | (go_at_call 55; refine (HB.out _ (by omega) _).mono ?_; rintro e w2 ⟨rfl, rfl⟩; clear HB)
                  | (go_at_call 55; refine (HC.out _ (by omega) _).mono ?_; rintro e w2 ⟨rfl, rfl⟩)
                  | (refine wpList_setS HS.out (by decide) rfl _ _ rfl rfl 8 (f : Nat) (sg z 0 0 (.slice none 0 0) (.slice p m c) f 0 0 0) (sg_set8 _ _ _ _ _ _ _ _ _ _) _ (sg_get8 _ _ _ _ _ _ _ _ _) rfl rfl ?_; intro wa8 ha; have HS8 := Lib.hid ha; clear ha HS)
                  | (refine wpList_setS HS8.out (by decide) rfl _ _ rfl rfl 9 (t : Nat) (sg z 0 0 (.slice none 0 0) (.slice p m c) f t 0 0) (sg_set9 _ _ _ _ _ _ _ _ _ _) _ (sg_get9 _ _ _ _ _ _ _ _ _) rfl rfl ?_; intro wa9 ha; have HS9 := Lib.hid ha; clear ha HS8)
                  | (refine wpList_setS HS9.out (by decide) rfl _ _ rfl rfl 10 (h : Nat) (sg z 0 0 (.slice none 0 0) (.slice p m c) f t h 0) (sg_set10 _ _ _ _ _ _ _ _ _ _) _ (sg_get10 _ _ _ _ _ _ _ _ _) rfl rfl ?_; intro wa10 ha; have HS10 := Lib.hid ha; clear ha HS9)
                  | (refine wpList_setS HS10.out (by decide) rfl _ _ rfl rfl 11 (lo : Nat) (sg z 0 0 (.slice none 0 0) (.slice p m c) f t h lo) (sg_set11 _ _ _ _ _ _ _ _ _ _) _ (sg_get11 _ _ _ _ _ _ _ _ _) rfl rfl ?_; intro wa11 ha; have HS11 := Lib.hid ha; have y8 : wa11.cell? ⟨w.heap.size, 8, none⟩ = some (.int .i64 f) := (ha.get 8).trans (sg_get8 _ _ _ _ _ _ _ _ _); have y9 : wa11.cell? ⟨w.heap.size, 9, none⟩ = some (.int .i64 t) := (ha.get 9).trans (sg_get9 _ _ _ _ _ _ _ _ _); have y10 : wa11.cell? ⟨w.heap.size, 10, none⟩ = some (.int .i64 h) := (ha.get 10).trans (sg_get10 _ _ _ _ _ _ _ _ _); have y11 : wa11.cell? ⟨w.heap.size, 11, none⟩ = some (.int .i64 lo) := (ha.get 11).trans (sg_get11 _ _ _ _ _ _ _ _ _); clear ha HS10)
                  | refine wpList_load_row rfl 38 _ rfl w.heap.size rfl 38 _ (0, 0) _ HS11.out.seg Tryd.underlying38 rfl (size38 _ rfl) ?_
                  | (refine wpList_retS HS11.out rfl (sg_one _ _ _ _ _ _ _ _ _ _ _ _ _) rfl _ _ rfl rfl rfl ?_; intro wf hf ho hb; have HFF := Lib.hid hf; have HOF := Lib.hid ho; have HBF := Lib.hid hb; clear hf ho hb))
                refine bodyPost_ret_by (results_row_tmp rfl _ _ (w.heap.size + 1) _ rfl (run_loadVar_row _ (w.heap.size + 1) 38 38 _ (0, 0) _ HFF.out Tryd.underlying38 rfl (size38 _ rfl)) _ rfl) rfl ⟨.inr ⟨by rw [HE.out ()]; decide, _, rfl, sg_one _ _ _ _ _ _ _ _ _ _ _ _ _, by rw [HE.out ()]; rfl⟩, HBF.out⟩
            · have HE := Lib.hid fun _ : Unit => HTT.out 8 (by rw [HTI.out (), if_neg hok]) (by decide)
              clear HTT HII HTI
              by_cases o1 : f ≤ t
              · by_cases o2 : t ≤ 63
                · by_cases o3 : h ≤ 13
                  · have o4 : 13 < lo := by omega
                    clear hok
                    go_wp2_with (first
                      | (go_at_call 55; refine (HA.out _ (by omega) _).mono ?_; rintro e w2 ⟨rfl, rfl⟩; clear HA)
                      | (go_at_call 55; refine (HB.out _ (by omega) _).mono ?_; rintro e w2 ⟨rfl, rfl⟩; clear HB)
                      | (go_at_call 55; refine (HC.out _ (by omega) _).mono ?_; rintro e w2 ⟨rfl, rfl⟩)
                      | (refine wpList_setS HS.out (by decide) rfl _ _ rfl rfl 8 (f : Nat) (sg z 0 0 (.slice none 0 0) (.slice p m c) f 0 0 0) (sg_set8 _ _ _ _ _ _ _ _ _ _) _ (sg_get8 _ _ _ _ _ _ _ _ _) rfl rfl ?_; intro wa8 ha; have HS8 := Lib.hid ha; clear ha HS)
                      | (refine wpList_setS HS8.out (by decide) rfl _ _ rfl rfl 9 (t : Nat) (sg z 0 0 (.slice none 0 0) (.slice p m c) f t 0 0) (sg_set9 _ _ _ _ _ _ _ _ _ _) _ (sg_get9 _ _ _ _ _ _ _ _ _) rfl rfl ?_; intro wa9 ha; have HS9 := Lib.hid ha; clear ha HS8)
                      | (refine wpList_setS HS9.out (by decide) rfl _ _ rfl rfl 10 (h : Nat) (sg z 0 0 (.slice none 0 0) (.slice p m c) f t h 0) (sg_set10 _ _ _ _ _ _ _ _ _ _) _ (sg_get10 _ _ _ _ _ _ _ _ _) rfl rfl ?_; intro wa10 ha; have HS10 := Lib.hid ha; clear ha HS9)
                      | (refine wpList_setS HS10.out (by decide) rfl _ _ rfl rfl 11 (lo : Nat) (sg z 0 0 (.slice none 0 0) (.slice p m c) f t h lo) (sg_set11 _ _ _ _ _ _ _ _ _ _) _ (sg_get11 _ _ _ _ _ _ _ _ _) rfl rfl ?_; intro wa11 ha; have HS11 := Lib.hid ha; have y8 : wa11.cell? ⟨w.heap.size, 8, none⟩ = some (.int .i64 f) := (ha.get 8).trans (sg_get8 _ _ _ _ _ _ _ _ _); have y9 : wa11.cell? ⟨w.heap.size, 9, none⟩ = some (.int .i64 t) := (ha.get 9).trans (sg_get9 _ _ _ _ _ _ _ _ _); have y10 : wa11.cell? ⟨w.heap.size, 10, none⟩ = some (.int .i64 h) := (ha.get 10).trans (sg_get10 _ _ _ _ _ _ _ _ _); have y11 : wa11.cell? ⟨w.heap.size, 11, none⟩ = some (.int .i64 lo) := (ha.get 11).trans (sg_get11 _ _ _ _ _ _ _ _ _); clear ha HS10)
                      | refine wpList_load_row rfl 38 _ rfl w.heap.size rfl 38 _ (0, 0) _ HS11.out.seg Tryd.underlying38 rfl (size38 _ rfl) ?_
                      | (refine wpList_retS HS11.out rfl (sg_one _ _ _ _ _ _ _ _ _ _ _ _ _) rfl _ _ rfl rfl rfl ?_; intro wf hf ho hb; have HFF := Lib.hid hf; have HOF := Lib.hid ho; have HBF := Lib.hid hb; clear hf ho hb))
                    refine bodyPost_ret_by (results_row_tmp rfl _ _ (w.heap.size + 1) _ rfl (run_loadVar_row _ (w.heap.size + 1) 38 38 _ (0, 0) _ HFF.out Tryd.underlying38 rfl (size38 _ rfl)) _ rfl) rfl ⟨.inr ⟨by rw [HE.out ()]; decide, _, rfl, sg_one _ _ _ _ _ _ _ _ _ _ _ _ _, by rw [HE.out ()]; rfl⟩, HBF.out⟩
                  · have o4 : 13 < h := by omega
                    clear hok o3
                    go_wp2_with (first
                      | (go_at_call 55; refine (HA.out _ (by omega) _).mono ?_; rintro e w2 ⟨rfl, rfl⟩; clear HA)
                      | (go_at_call 55; refine (HB.out _ (by omega) _).mono ?_; rintro e w2 ⟨rfl, rfl⟩; clear HB)
                      | (go_at_call 55; refine (HC.out _ (by omega) _).mono ?_; rintro e w2 ⟨rfl, rfl⟩)
                      | (refine wpList_setS HS.out (by decide) rfl _ _ rfl rfl 8 (f : Nat) (sg z 0 0 (.slice none 0 0) (.slice p m c) f 0 0 0) (sg_set8 _ _ _ _ _ _ _ _ _ _) _ (sg_get8 _ _ _ _ _ _ _ _ _) rfl rfl ?_; intro wa8 ha; have HS8 := Lib.hid ha; clear ha HS)
                      | (refine wpList_setS HS8.out (by decide) rfl _ _ rfl rfl 9 (t : Nat) (sg z 0 0 (.slice none 0 0) (.slice p m c) f t 0 0) (sg_set9 _ _ _ _ _ _ _ _ _ _) _ (sg_get9 _ _ _ _ _ _ _ _ _) rfl rfl ?_; intro wa9 ha; have HS9 := Lib.hid ha; clear ha HS8)
                      | (refine wpList_setS HS9.out (by decide) rfl _ _ rfl rfl 10 (h : Nat) (sg z 0 0 (.slice none 0 0) (.slice p m c) f t h 0) (sg_set10 _ _ _ _ _ _ _ _ _ _) _ (sg_get10 _ _ _ _ _ _ _ _ _) rfl rfl ?_; intro wa10 ha; have HS10 := Lib.hid ha; clear ha HS9)
                      | (refine wpList_setS HS10.out (by decide) rfl _ _ rfl rfl 11 (lo : Nat) (sg z 0 0 (.slice none 0 0) (.slice p m c) f t h lo) (sg_set11 _ _ _ _ _ _ _ _ _ _) _ (sg_get11 _ _ _ _ _ _ _ _ _) rfl rfl ?_; intro wa11 ha; have HS11 := Lib.hid ha; have y8 : wa11.cell? ⟨w.heap.size, 8, none⟩ = some (.int .i64 f) := (ha.get 8).trans (sg_get8 _ _ _ _ _ _ _ _ _); have y9 : wa11.cell? ⟨w.heap.size, 9, none⟩ = some (.int .i64 t) := (ha.get 9).trans (sg_get9 _ _ _ _ _ _ _ _ _); have y10 : wa11.cell? ⟨w.heap.size, 10, none⟩ = some (.int .i64 h) := (ha.get 10).trans (sg_get10 _ _ _ _ _ _ _ _ _); have y11 : wa11.cell? ⟨w.heap.size, 11, none⟩ = some (.int .i64 lo) := (ha.get 11).trans (sg_get11 _ _ _ _ _ _ _ _ _); clear ha HS10)
                      | refine wpList_load_row rfl 38 _ rfl w.heap.size rfl 38 _ (0, 0) _ HS11.out.seg Tryd.underlying38 rfl (size38 _ rfl) ?_
                      | (refine wpList_retS HS11.out rfl (sg_one _ _ _ _ _ _ _ _ _ _ _ _ _) rfl _ _ rfl rfl rfl ?_; intro wf hf ho hb; have HFF := Lib.hid hf; have HOF := Lib.hid ho; have HBF := Lib.hid hb; clear hf ho hb))
                    refine bodyPost_ret_by (results_row_tmp rfl _ _ (w.heap.size + 1) _ rfl (run_loadVar_row _ (w.heap.size + 1) 38 38 _ (0, 0) _ HFF.out Tryd.underlying38 rfl (size38 _ rfl)) _ rfl) rfl ⟨.inr ⟨by rw [HE.out ()]; decide, _, rfl, sg_one _ _ _ _ _ _ _ _ _ _ _ _ _, by rw [HE.out ()]; rfl⟩, HBF.out⟩
                · have o4 : 63 < t := by omega
                  clear hok o2
                  go_wp2_with (first
                    | (go_at_call 55; refine (HA.out _ (by omega) _).mono ?_; rintro e w2 ⟨rfl, rfl⟩; clear HA)
                    | (go_at_call 55; refine (HB.out _ (by omega) _).mono ?_; rintro e w2 ⟨rfl, rfl⟩; clear HB)
                    | (go_at_call 55; refine (HC.out _ (by omega) _).mono ?_; rintro e w2 ⟨rfl, rfl⟩)
                    | (refine wpList_setS HS.out (by decide) rfl _ _ rfl rfl 8 (f : Nat) (sg z 0 0 (.slice none 0 0) (.slice p m c) f 0 0 0) (sg_set8 _ _ _ _ _ _ _ _ _ _) _ (sg_get8 _ _ _ _ _ _ _ _ _) rfl rfl ?_; intro wa8 ha; have HS8 := Lib.hid ha; clear ha HS)
                    | (refine wpList_setS HS8.out (by decide) rfl _ _ rfl rfl 9 (t : Nat) (sg z 0 0 (.slice none 0 0) (.slice p m c) f t 0 0) (sg_set9 _ _ _ _ _ _ _ _ _ _) _ (sg_get9 _ _ _ _ _ _ _ _ _) rfl rfl ?_; intro wa9 ha; have HS9 := Lib.hid ha; clear ha HS8)
                    | (refine wpList_setS HS9.out (by decide) rfl _ _ rfl rfl 10 (h : Nat) (sg z 0 0 (.slice none 0 0) (.slice p m c) f t h 0) (sg_set10 _ _ _ _ _ _ _ _ _ _) _ (sg_get10 _ _ _ _ _ _ _ _ _) rfl rfl ?_; intro wa10 ha; have HS10 := Lib.hid ha; clear ha HS9)
                    | (refine wpList_setS HS10.out (by decide) rfl _ _ rfl rfl 11 (lo : Nat) (sg z 0 0 (.slice none 0 0) (.slice p m c) f t h lo) (sg_set11 _ _ _ _ _ _ _ _ _ _) _ (sg_get11 _ _ _ _ _ _ _ _ _) rfl rfl ?_; intro wa11 ha; have HS11 := Lib.hid ha; have y8 : wa11.cell? ⟨w.heap.size, 8, none⟩ = some (.int .i64 f) := (ha.get 8).trans (sg_get8 _ _ _ _ _ _ _ _ _); have y9 : wa11.cell? ⟨w.heap.size, 9, none⟩ = some (.int .i64 t) := (ha.get 9).trans (sg_get9 _ _ _ _ _ _ _ _ _); have y10 : wa11.cell? ⟨w.heap.size, 10, none⟩ = some (.int .i64 h) := (ha.get 10).trans (sg_get10 _ _ _ _ _ _ _ _ _); have y11 : wa11.cell? ⟨w.heap.size, 11, none⟩ = some (.int .i64 lo) := (ha.get 11).trans (sg_get11 _ _ _ _ _ _ _ _ _); clear ha HS10)
                    | refine wpList_load_row rfl 38 _ rfl w.heap.size rfl 38 _ (0, 0) _ HS11.out.seg Tryd.underlying38 rfl (size38 _ rfl) ?_
                    | (refine wpList_retS HS11.out rfl (sg_one _ _ _ _ _ _ _ _ _ _ _ _ _) rfl _ _ rfl rfl rfl ?_; intro wf hf ho hb; have HFF := Lib.hid hf; have HOF := Lib.hid ho; have HBF := Lib.hid hb; clear hf ho hb))
                  refine bodyPost_ret_by (results_row_tmp rfl _ _ (w.heap.size + 1) _ rfl (run_loadVar_row _ (w.heap.size + 1) 38 38 _ (0, 0) _ HFF.out Tryd.underlying38 rfl (size38 _ rfl)) _ rfl) rfl ⟨.inr ⟨by rw [HE.out ()]; decide, _, rfl, sg_one _ _ _ _ _ _ _ _ _ _ _ _ _, by rw [HE.out ()]; rfl⟩, HBF.out⟩
              · have o4 : t < f := by omega
                clear hok o1
                go_wp2_with (first
                  | (go_at_call 55; refine (HA.out _ (by omega) _).mono ?_; rintro e w2 ⟨rfl, rfl⟩; clear HA)
                  | (go_at_call 55; refine (HB.out _ (by omega) _).mono ?_; rintro e w2 ⟨rfl, rfl⟩; clear HB)
                  | (go_at_call 55; refine (HC.out _ (by omega) _).mono ?_; rintro e w2 ⟨rfl, rfl⟩)
                  | (refine wpList_setS HS.out (by decide) rfl _ _ rfl rfl 8 (f : Nat) (sg z 0 0 (.slice none 0 0) (.slice p m c) f 0 0 0) (sg_set8 _ _ _ _ _ _ _ _ _ _) _ (sg_get8 _ _ _ _ _ _ _ _ _) rfl rfl ?_; intro wa8 ha; have HS8 := Lib.hid ha; clear ha HS)
                  | (refine wpList_setS HS8.out (by decide) rfl _ _ rfl rfl 9 (t : Nat) (sg z 0 0 (.slice none 0 0) (.slice p m c) f t 0 0) (sg_set9 _ _ _ _ _ _ _ _ _ _) _ (sg_get9 _ _ _ _ _ _ _ _ _) rfl rfl ?_; intro wa9 ha; have HS9 := Lib.hid ha; clear ha HS8)
                  | (refine wpList_setS HS9.out (by decide) rfl _ _ rfl rfl 10 (h : Nat) (sg z 0 0 (.slice none 0 0) (.slice p m c) f t h 0) (sg_set10 _ _ _ _ _ _ _ _ _ _) _ (sg_get10 _ _ _ _ _ _ _ _ _) rfl rfl ?_; intro wa10 ha; have HS10 := Lib.hid ha; clear ha HS9)
                  | (refine wpList_setS HS10.out (by decide) rfl _ _ rfl rfl 11 (lo : Nat) (sg z 0 0 (.slice none 0 0) (.slice p m c) f t h lo) (sg_set11 _ _ _ _ _ _ _ _ _ _) _ (sg_get11 _ _ _ _ _ _ _ _ _) rfl rfl ?_; intro wa11 ha; have HS11 := Lib.hid ha; have y8 : wa11.cell? ⟨w.heap.size, 8, none⟩ = some (.int .i64 f) := (ha.get 8).trans (sg_get8 _ _ _ _ _ _ _ _ _); have y9 : wa11.cell? ⟨w.heap.size, 9, none⟩ = some (.int .i64 t) := (ha.get 9).trans (sg_get9 _ _ _ _ _ _ _ _ _); have y10 : wa11.cell? ⟨w.heap.size, 10, none⟩ = some (.int .i64 h) := (ha.get 10).trans (sg_get10 _ _ _ _ _ _ _ _ _); have y11 : wa11.cell? ⟨w.heap.size, 11, none⟩ = some (.int .i64 lo) := (ha.get 11).trans (sg_get11 _ _ _ _ _ _ _ _ _); clear ha HS10)
                  | refine wpList_load_row rfl 38 _ rfl w.heap.size rfl 38 _ (0, 0) _ HS11.out.seg Tryd.underlying38 rfl (size38 _ rfl) ?_
                  | (refine wpList_retS HS11.out rfl (sg_one _ _ _ _ _ _ _ _ _ _ _ _ _) rfl _ _ rfl rfl rfl ?_; intro wf hf ho hb; have HFF := Lib.hid hf; have HOF := Lib.hid ho; have HBF := Lib.hid hb; clear hf ho hb))
                refine bodyPost_ret_by (results_row_tmp rfl _ _ (w.heap.size + 1) _ rfl (run_loadVar_row _ (w.heap.size + 1) 38 38 _ (0, 0) _ HFF.out Tryd.underlying38 rfl (size38 _ rfl)) _ rfl) rfl ⟨.inr ⟨by rw [HE.out ()]; decide, _, rfl, sg_one _ _ _ _ _ _ _ _ _ _ _ _ _, by rw [HE.out ()]; rfl⟩, HBF.out⟩
  · have HE := Lib.hid fun _ : Unit => rscan_out h0
    have e0 : rby s 0 = -1 := by unfold rby; rw [dif_neg h0]
    rw [e0] at HB0
    clear HBY e0
    go_wp2_with (first
      | (go_at_call 55; refine (HB0.out _ (by kernel_rfl) _ rfl).mono ?_; rintro e w2 ⟨rfl, h⟩; have H1 := Lib.hid h; clear h HB0)
      | refine wpList_load_row rfl 38 _ rfl w.heap.size rfl 38 _ (0, 0) _ H1.out.seg Tryd.underlying38 rfl (size38 _ rfl) ?_
      | (refine wpList_retS H1.out rfl (sg_one _ _ _ _ _ _ _ _ _ _ _ _ _) rfl _ _ rfl rfl rfl ?_; intro wf hf ho hb; have HFF := Lib.hid hf; have HOF := Lib.hid ho; have HBF := Lib.hid hb; clear hf ho hb))
    refine bodyPost_ret_by (results_row_tmp rfl _ _ (w.heap.size + 1) _ rfl (run_loadVar_row _ (w.heap.size + 1) 38 38 _ (0, 0) _ HFF.out Tryd.underlying38 rfl (size38 _ rfl)) _ rfl) rfl ⟨.inr ⟨by rw [HE.out ()]; decide, _, rfl, sg_one _ _ _ _ _ _ _ _ _ _ _ _ _, by rw [HE.out ()]; rfl⟩, HBF.out⟩
end Go.Proofs.YtfohgocdabgbgaaDoor
