/- The document's Parse: scans, frames; whatever code and body. -/
import Derived.Test.YtfohgocdabgbgaaDoorRParM
import Derived.Test.YtfohgocdabgbgaaDoorRScan
import Derived.Test.YtfohgocdabgbgaaDoorRFrameM
namespace Go.Proofs.YtfohgocdabgbgaaDoor
open Go.RowKit

set_option maxRecDepth 100000 in
set_option maxHeartbeats 8000000 in
theorem RP_scan (s : ByteArray) (hs : s.size ≤ 65533) (w : World) : Calls Tryd.prog 12 #[.int .i64 218, .string s] w fun e w' => RP (escan s) (fun cs w' => ∃ v, cs = (sg 218 0 0 (.slice none 0 0) v ((rscan s (0, 0)).1.2.1 : Nat) ((rscan s (0, 0)).1.2.2.1 : Nat) ((rscan s (0, 0)).1.2.2.2.1 : Nat) ((rscan s (0, 0)).1.2.2.2.2 : Nat)) ∧ OwnR 118 3 cellsK w.heap.size v (rscan s (0, 0)).1.1 w') w e w' := by
  have HTOK := Lib.hid trivial
  have hs' : ¬ (65533 : Int) < (s.size : Int) := by omega
  have HQ := Lib.hid fun x => (show Calls Tryd.prog 36 #[.agg (dz 218), .string s] x fun e w' => ScanPost 218 s x e w' from scan_any 218 s hs x)
  by_cases hE : escan s = 0
  · have HY : Hid (∀ x, Calls Tryd.prog 36 #[.agg (dz 218), .string s] x fun e w' => ∃ v, e = .returned (.tuple #[.agg (sg 218 0 0 (.slice none 0 0) v ((rscan s (0, 0)).1.2.1 : Nat) ((rscan s (0, 0)).1.2.2.1 : Nat) ((rscan s (0, 0)).1.2.2.2.1 : Nat) ((rscan s (0, 0)).1.2.2.2.2 : Nat)), .int .i64 0]) ∧ OwnR 118 3 cellsK x.heap.size v (rscan s (0, 0)).1.1 w' ∧ Below x.heap.size x w') := fun x => (HQ.out x).mono fun e w' h => by
      rcases h.1 with ⟨_, v, h1, h2⟩ | ⟨h1, _⟩
      · exact ⟨v, h1, h2, h.2⟩
      · exact absurd hE h1
    have HE := Lib.hid fun _ : Unit => hE
    clear HQ hE
    generalize (rscan s (0, 0)).1.2.1 = q1 at *
    generalize (rscan s (0, 0)).1.2.2.1 = q2 at *
    generalize (rscan s (0, 0)).1.2.2.2.1 = q3 at *
    generalize (rscan s (0, 0)).1.2.2.2.2 = q4 at *
    generalize (rscan s (0, 0)).1.1 = LL at *
    go_enter Tryd.func12, Tryd.ntmps12
    go_wp2_with (first
      | refine builtSw rfl _ rfl 218 rfl ?_
      | (have ht := HTOK.out; refine wpList_freshG rfl 38 _ _ rfl (w.heap.size + 1) (size_alloc _ _) (dz 218) _ rfl rfl (size38 _ rfl) (by kernel_rfl) (dz_one _) ?_; intro y hy hby; have H1 := Lib.hid (PD.start (by kernel_rfl) hy hby); have x1 := H1.out.free 1; have x2 : y.cell? ⟨w.heap.size + 1, 1, none⟩ = some (.string ⟨#[]⟩) := H1.out.get 1; clear hy hby HTOK ht)
      | refine wpList_load_row rfl 38 _ rfl (w.heap.size + 1) rfl 38 (dz 218) (0, 0) _ H1.out.seg Tryd.underlying38 rfl (size38 _ rfl) ?_
      | (go_at_call 36; refine (HY.out _).mono ?_; rintro e w4 ⟨v, rfl, ho, hb⟩; obtain ⟨p, m, c, rfl, hm⟩ := ho.shape; have H2 := Lib.hid (H1.out.frame hb); have HO := Lib.hid (ho.mono H1.out.low.size); clear ho hb hm HY H1)
      | (refine wpList_over H2.out rfl rfl (sg_one _ _ _ _ _ _ _ _ _ _ _ _ _) rfl _ _ rfl rfl rfl ?_; intro w5 hp hbt; have H3 := Lib.hid hp; have HO3 := Lib.hid (HO.out.but H2.out.seg (by decide) hbt); clear hp hbt H2 HO)
      | refine wpList_load_row rfl 38 _ rfl (w.heap.size + 1) rfl 38 (sg 218 0 0 (.slice none 0 0) (.slice p m c) (q1 : Nat) (q2 : Nat) (q3 : Nat) (q4 : Nat)) (0, 0) _ H3.out.seg Tryd.underlying38 rfl (size38 _ rfl) ?_
      | (refine wpList_res H3.out rfl (sg_one _ _ _ _ _ _ _ _ _ _ _ _ _) rfl _ _ rfl rfl rfl ?_; intro wf hf hbt hb; have HFF := Lib.hid hf; have HBF := Lib.hid hb; obtain ⟨Z, hZ, hr⟩ := H3.out.res; have HO5 := Lib.hid (HO3.out.but hr (by decide) hbt); clear hZ hr; clear hf hbt hb))
    refine bodyPost_ret_by (results_row_tmp rfl _ _ w.heap.size _ rfl (run_loadVar_row _ w.heap.size 38 38 _ (0, 0) _ HFF.out Tryd.underlying38 rfl (size38 _ rfl)) _ rfl) rfl ⟨.inl ⟨HE.out (), _, rfl, _, rfl, HO5.out⟩, HBF.out⟩
  · have HE := Lib.hid hE
    have HY : Hid (∀ x, Calls Tryd.prog 36 #[.agg (dz 218), .string s] x fun e w' => ∃ sc : Array Value, sc.size = 13 ∧ sc.all (·.oneCell') = true ∧ e = .returned (.tuple #[.agg sc, .int .i64 (escan s : Nat)]) ∧ Below x.heap.size x w') := fun x => (HQ.out x).mono fun e w' h => by
      rcases h.1 with ⟨h1, _⟩ | ⟨_, sc, h1, h2, h3⟩
      · exact absurd h1 hE
      · exact ⟨sc, h1, h2, h3, h.2⟩
    have hE' : ((escan s : Int) != 0) = true := by rw [bne_iff_ne]; omega
    generalize escan s = EE at *
    clear HQ hE
    go_enter Tryd.func12, Tryd.ntmps12
    go_wp2_with (first
      | refine builtSw rfl _ rfl 218 rfl ?_
      | (have ht := HTOK.out; refine wpList_freshG rfl 38 _ _ rfl (w.heap.size + 1) (size_alloc _ _) (dz 218) _ rfl rfl (size38 _ rfl) (by kernel_rfl) (dz_one _) ?_; intro y hy hby; have H1 := Lib.hid (PD.start (by kernel_rfl) hy hby); have x1 := H1.out.free 1; have x2 : y.cell? ⟨w.heap.size + 1, 1, none⟩ = some (.string ⟨#[]⟩) := H1.out.get 1; clear hy hby HTOK ht)
      | refine wpList_load_row rfl 38 _ rfl (w.heap.size + 1) rfl 38 (dz 218) (0, 0) _ H1.out.seg Tryd.underlying38 rfl (size38 _ rfl) ?_
      | (go_at_call 36; refine (HY.out _).mono ?_; rintro e w4 ⟨sc, hc1, hc2, rfl, hb⟩; have H2 := Lib.hid (H1.out.frame hb); have HC1 := Lib.hid hc1; have HC2 := Lib.hid hc2; clear hb hc1 hc2 HY H1)
      | (refine wpList_over H2.out rfl HC1.out HC2.out rfl _ _ rfl rfl rfl ?_; intro w5 hp hbt; have H3 := Lib.hid hp; clear hp hbt H2)
      | refine builtS0w rfl rfl ?_
      | (refine wpList_res H3.out rfl (dz_one _) rfl _ _ rfl rfl rfl ?_; intro wf hf hbt hb; have HFF := Lib.hid hf; have HBF := Lib.hid hb; clear hf hbt hb))
    refine bodyPost_ret_by (results_row_tmp rfl _ _ w.heap.size _ rfl (run_loadVar_row _ w.heap.size 38 38 _ (0, 0) _ HFF.out Tryd.underlying38 rfl (size38 _ rfl)) _ rfl) rfl ⟨.inr ⟨HE.out, _, rfl, rfl, dz_one _⟩, HBF.out⟩
set_option maxRecDepth 100000 in
set_option maxHeartbeats 8000000 in
theorem RP_frame (z : Int) (h1 : 192 ≤ z) (h2 : z ≤ 194) (s : ByteArray) (hs : s.size ≤ 65533) (w : World) : Calls Tryd.prog 12 #[.int .i64 z, .string s] w fun e w' => RP (eframe s) (fun cs w' => ∃ v, cs = (sg z ((rframe s (0, 0)).1.1 : Nat) ((rframe s (0, 0)).1.2.1 : Nat) v (.slice none 0 0) 0 0 0 0) ∧ OwnR 79 4 cellsP w.heap.size v (rframe s (0, 0)).1.2.2 w') w e w' := by
  have HTOK := Lib.hid trivial
  have hs' : ¬ (65533 : Int) < (s.size : Int) := by omega
  have HQ := Lib.hid fun x => (show Calls Tryd.prog 38 #[.agg (dz z), .string s] x fun e w' => FramePost z s x e w' from frame_any z s hs x)
  have b1 : ¬ 194 < z := by omega
  have b7 : ¬ z < 192 := by omega
  have b8 : ¬ 254 < z := by omega
  have h4 : ¬ 208 ≤ z := by omega
  have h5 : ¬ 224 ≤ z := by omega
  have b6 : (z == 254) = false := by rw [beq_eq_false_iff_ne]; omega
  have b9 : (z == 196) = false := by rw [beq_eq_false_iff_ne]; omega
  have b10 : (z == 218) = false := by rw [beq_eq_false_iff_ne]; omega
  have b11 : (z == 219) = false := by rw [beq_eq_false_iff_ne]; omega
  have b12 : (z == 221) = false := by rw [beq_eq_false_iff_ne]; omega
  by_cases hE : eframe s = 0
  · have HY : Hid (∀ x, Calls Tryd.prog 38 #[.agg (dz z), .string s] x fun e w' => ∃ v, e = .returned (.tuple #[.agg (sg z ((rframe s (0, 0)).1.1 : Nat) ((rframe s (0, 0)).1.2.1 : Nat) v (.slice none 0 0) 0 0 0 0), .int .i64 0]) ∧ OwnR 79 4 cellsP x.heap.size v (rframe s (0, 0)).1.2.2 w' ∧ Below x.heap.size x w') := fun x => (HQ.out x).mono fun e w' h => by
      rcases h.1 with ⟨_, v, h1, h2⟩ | ⟨h1, _⟩
      · exact ⟨v, h1, h2, h.2⟩
      · exact absurd hE h1
    have HE := Lib.hid fun _ : Unit => hE
    clear HQ hE
    generalize (rframe s (0, 0)).1.1 = q1 at *
    generalize (rframe s (0, 0)).1.2.1 = q2 at *
    generalize (rframe s (0, 0)).1.2.2 = LL at *
    go_enter Tryd.func12, Tryd.ntmps12
    go_wp2_with (first
      | refine builtSw rfl _ rfl z rfl ?_
      | (have ht := HTOK.out; refine wpList_freshG rfl 38 _ _ rfl (w.heap.size + 1) (size_alloc _ _) (dz z) _ rfl rfl (size38 _ rfl) (by kernel_rfl) (dz_one _) ?_; intro y hy hby; have H1 := Lib.hid (PD.start (by kernel_rfl) hy hby); have x1 := H1.out.free 1; have x2 : y.cell? ⟨w.heap.size + 1, 1, none⟩ = some (.string ⟨#[]⟩) := H1.out.get 1; clear hy hby HTOK ht)
      | refine wpList_load_row rfl 38 _ rfl (w.heap.size + 1) rfl 38 (dz z) (0, 0) _ H1.out.seg Tryd.underlying38 rfl (size38 _ rfl) ?_
      | (go_at_call 38; refine (HY.out _).mono ?_; rintro e w4 ⟨v, rfl, ho, hb⟩; obtain ⟨p, m, c, rfl, hm⟩ := ho.shape; have H2 := Lib.hid (H1.out.frame hb); have HO := Lib.hid (ho.mono H1.out.low.size); clear ho hb hm HY H1)
      | (refine wpList_over H2.out rfl rfl (sg_one _ _ _ _ _ _ _ _ _ _ _ _ _) rfl _ _ rfl rfl rfl ?_; intro w5 hp hbt; have H3 := Lib.hid hp; have HO3 := Lib.hid (HO.out.but H2.out.seg (by decide) hbt); clear hp hbt H2 HO)
      | refine wpList_load_row rfl 38 _ rfl (w.heap.size + 1) rfl 38 (sg z (q1 : Nat) (q2 : Nat) (.slice p m c) (.slice none 0 0) 0 0 0 0) (0, 0) _ H3.out.seg Tryd.underlying38 rfl (size38 _ rfl) ?_
      | (refine wpList_res H3.out rfl (sg_one _ _ _ _ _ _ _ _ _ _ _ _ _) rfl _ _ rfl rfl rfl ?_; intro wf hf hbt hb; have HFF := Lib.hid hf; have HBF := Lib.hid hb; obtain ⟨Z, hZ, hr⟩ := H3.out.res; have HO5 := Lib.hid (HO3.out.but hr (by decide) hbt); clear hZ hr; clear hf hbt hb))
    refine bodyPost_ret_by (results_row_tmp rfl _ _ w.heap.size _ rfl (run_loadVar_row _ w.heap.size 38 38 _ (0, 0) _ HFF.out Tryd.underlying38 rfl (size38 _ rfl)) _ rfl) rfl ⟨.inl ⟨HE.out (), _, rfl, _, rfl, HO5.out⟩, HBF.out⟩
  · have HE := Lib.hid hE
    have HY : Hid (∀ x, Calls Tryd.prog 38 #[.agg (dz z), .string s] x fun e w' => ∃ sc : Array Value, sc.size = 13 ∧ sc.all (·.oneCell') = true ∧ e = .returned (.tuple #[.agg sc, .int .i64 (eframe s : Nat)]) ∧ Below x.heap.size x w') := fun x => (HQ.out x).mono fun e w' h => by
      rcases h.1 with ⟨h1, _⟩ | ⟨_, sc, h1, h2, h3⟩
      · exact absurd h1 hE
      · exact ⟨sc, h1, h2, h3, h.2⟩
    have hE' : ((eframe s : Int) != 0) = true := by rw [bne_iff_ne]; omega
    generalize eframe s = EE at *
    clear HQ hE
    go_enter Tryd.func12, Tryd.ntmps12
    go_wp2_with (first
      | refine builtSw rfl _ rfl z rfl ?_
      | (have ht := HTOK.out; refine wpList_freshG rfl 38 _ _ rfl (w.heap.size + 1) (size_alloc _ _) (dz z) _ rfl rfl (size38 _ rfl) (by kernel_rfl) (dz_one _) ?_; intro y hy hby; have H1 := Lib.hid (PD.start (by kernel_rfl) hy hby); have x1 := H1.out.free 1; have x2 : y.cell? ⟨w.heap.size + 1, 1, none⟩ = some (.string ⟨#[]⟩) := H1.out.get 1; clear hy hby HTOK ht)
      | refine wpList_load_row rfl 38 _ rfl (w.heap.size + 1) rfl 38 (dz z) (0, 0) _ H1.out.seg Tryd.underlying38 rfl (size38 _ rfl) ?_
      | (go_at_call 38; refine (HY.out _).mono ?_; rintro e w4 ⟨sc, hc1, hc2, rfl, hb⟩; have H2 := Lib.hid (H1.out.frame hb); have HC1 := Lib.hid hc1; have HC2 := Lib.hid hc2; clear hb hc1 hc2 HY H1)
      | (refine wpList_over H2.out rfl HC1.out HC2.out rfl _ _ rfl rfl rfl ?_; intro w5 hp hbt; have H3 := Lib.hid hp; clear hp hbt H2)
      | refine builtS0w rfl rfl ?_
      | (refine wpList_res H3.out rfl (dz_one _) rfl _ _ rfl rfl rfl ?_; intro wf hf hbt hb; have HFF := Lib.hid hf; have HBF := Lib.hid hb; clear hf hbt hb))
    refine bodyPost_ret_by (results_row_tmp rfl _ _ w.heap.size _ rfl (run_loadVar_row _ w.heap.size 38 38 _ (0, 0) _ HFF.out Tryd.underlying38 rfl (size38 _ rfl)) _ rfl) rfl ⟨.inr ⟨HE.out, _, rfl, rfl, dz_one _⟩, HBF.out⟩
/-- The document's segment is this one; its list is the call's own, from block B on. -/
def DV (B : Nat) (z : Int) : PS → Array Value → World → Prop
  | .inl (z', b), cs, _ => z' = z ∧ cs = dsg z b (.slice none 0 0) (.slice none 0 0) 0 0 (.slice none 0 0) (.slice none 0 0) 0 0 0 0 0
  | .inr (.inl l), cs, w => ∃ v, cs = dsg 219 ⟨#[]⟩ v (.slice none 0 0) 0 0 (.slice none 0 0) (.slice none 0 0) 0 0 0 0 0 ∧ OwnR 66 66 cellsQ B v l w
  | .inr (.inr (.inl l)), cs, w => ∃ v, cs = dsg 196 ⟨#[]⟩ (.slice none 0 0) v 0 0 (.slice none 0 0) (.slice none 0 0) 0 0 0 0 0 ∧ OwnR 73 19 cellsH B v l w
  | .inr (.inr (.inr (.inl (z', h, u, l)))), cs, w => ∃ v, z' = z ∧ cs = sg z h u v (.slice none 0 0) 0 0 0 0 ∧ OwnR 79 4 cellsP B v l w
  | .inr (.inr (.inr (.inr (.inl (l, f, t, h, u))))), cs, w => ∃ v, cs = sg 218 0 0 (.slice none 0 0) v f t h u ∧ OwnR 118 3 cellsK B v l w
  | .inr (.inr (.inr (.inr (.inr n)))), cs, _ => cs = dsg 221 ⟨#[]⟩ (.slice none 0 0) (.slice none 0 0) 0 0 (.slice none 0 0) (.slice none 0 0) 0 0 0 0 n
theorem OwnR.qt66 {B : Nat} {v : Value} {l : List (Nat × Nat × (Nat → Nat))} {w : World} (h : OwnR 66 66 quantC B v l w) : OwnR 66 66 cellsQ B v (l.map Go.Proofs.YtfohgocdabgbgaaDoor.qt) w := by
  unfold OwnR at h ⊢
  rw [rowC_map, List.length_map]
  exact h
theorem RP.to {E E' : Nat} {Φ Ψ : Array Value → World → Prop} {w w' : World} {e : Ending} (h : RP E Φ w e w') (hE : E = E') (hΦ : E = 0 → ∀ cs, Φ cs w' → Ψ cs w') : RP E' Ψ w e w' := by
  subst hE
  refine ⟨?_, h.2⟩
  rcases h.1 with ⟨h1, cs, h2, h3⟩ | h1
  · exact .inl ⟨h1, cs, h2, hΦ h1 cs h3⟩
  · exact .inr h1
theorem perr_of {z : Int} {s : ByteArray} {x : PS} {R : Nat × Nat} (h0 : refu z = 0) (hs : s.size ≤ 65533) (hr : rseg z s = (x, R)) : perr z s = (rneed (decide (s.size - R.1 = 0)) 4 R).2 := by
  unfold perr
  rw [if_neg (by omega), if_neg (by omega), hr]
theorem RP.seg {E : Nat} {z : Int} {s : ByteArray} {x : PS} {R : Nat × Nat} {Φ : Array Value → World → Prop} {B : Nat} {w w' : World} {e : Ending} (h : RP E Φ w e w') (h0 : refu z = 0) (hs : s.size ≤ 65533) (hr : rseg z s = (x, R)) (hE : E = (rneed (decide (s.size - R.1 = 0)) 4 R).2) (hΦ : E = 0 → ∀ cs, Φ cs w' → DV B z x cs w') :
    RP (perr z s) (fun cs w' => DV B z (rseg z s).1 cs w') w e w' := by
  refine h.to (by rw [perr_of h0 hs hr]; exact hE) ?_
  intro h1 cs h2
  rw [hr]
  exact hΦ h1 cs h2
section
variable (s : ByteArray)
theorem seg196 : rseg 196 s = (PS.huffs (rall (rhuff s) s (0, 0)).1, (rall (rhuff s) s (0, 0)).2) := if_pos rfl
theorem seg218 : rseg 218 s = (PS.scan (rscan s (0, 0)).1.1 ((rscan s (0, 0)).1.2.1 : Nat) ((rscan s (0, 0)).1.2.2.1 : Nat) ((rscan s (0, 0)).1.2.2.2.1 : Nat) ((rscan s (0, 0)).1.2.2.2.2 : Nat), (rscan s (0, 0)).2) := by unfold rseg; rw [if_neg (by decide), if_pos rfl]
theorem seg219 : rseg 219 s = (PS.quants ((rall (rquant s) s (0, 0)).1.map qt), (rall (rquant s) s (0, 0)).2) := by unfold rseg; rw [if_neg (by decide), if_neg (by decide), if_pos rfl]
theorem seg221 : rseg 221 s = (PS.rest ((rnum s 2 (0, 0)).1 : Nat), (rnum s 2 (0, 0)).2) := by unfold rseg; rw [if_neg (by decide), if_neg (by decide), if_neg (by decide), if_pos rfl]
theorem segF {z : Int} (h1 : 192 ≤ z) (h2 : z ≤ 194) : rseg z s = (PS.frame z ((rframe s (0, 0)).1.1 : Nat) ((rframe s (0, 0)).1.2.1 : Nat) (rframe s (0, 0)).1.2.2, (rframe s (0, 0)).2) := by unfold rseg; rw [if_neg (by omega), if_neg (by omega), if_neg (by omega), if_neg (by omega), if_pos ⟨h1, h2⟩]
theorem segP {z : Int} (h : (224 ≤ z ∧ z ≤ 239) ∨ z = 254) : rseg z s = (PS.plain z s, (s.size, 0)) := by unfold rseg; rw [if_neg (by omega), if_neg (by omega), if_neg (by omega), if_neg (by omega), if_neg (by omega)]
theorem refu_ok {z : Int} (h : okz z) : refu z = 0 := by
  unfold okz at h
  unfold refu
  rw [if_neg (by omega), if_neg (by omega), if_pos h]
theorem DP_196 (hs : s.size ≤ 65533) (w : World) : Calls Tryd.prog 12 #[.int .i64 196, .string s] w fun e w' => RP (perr 196 s) (fun cs w' => DV w.heap.size 196 (rseg 196 s).1 cs w') w e w' :=
  (RP_huffs s w hs).mono fun _ _ h => h.seg (refu_ok (.inl rfl)) hs (seg196 s) (rall_end (rhuff_adv s) (0, 0)).symm fun _ _ h => h
theorem DP_218 (hs : s.size ≤ 65533) (w : World) : Calls Tryd.prog 12 #[.int .i64 218, .string s] w fun e w' => RP (perr 218 s) (fun cs w' => DV w.heap.size 218 (rseg 218 s).1 cs w') w e w' := by
  refine (RP_scan s hs w).mono fun _ _ h => h.seg (refu_ok (.inr (.inl rfl))) hs (seg218 s) ?_ fun _ _ h => h
  unfold escan
  rfl
theorem DP_219 (hs : s.size ≤ 65533) (w : World) : Calls Tryd.prog 12 #[.int .i64 219, .string s] w fun e w' => RP (perr 219 s) (fun cs w' => DV w.heap.size 219 (rseg 219 s).1 cs w') w e w' := by
  refine (RP_quants s w hs).mono fun _ _ h => h.seg (refu_ok (.inr (.inr (.inl rfl)))) hs (seg219 s) (rall_end (rquant_adv s) (0, 0)).symm ?_
  rintro _ _ ⟨v, h1, h2⟩
  exact ⟨v, h1, h2.qt66⟩
theorem DP_221 (hs : s.size ≤ 65533) (w : World) : Calls Tryd.prog 12 #[.int .i64 221, .string s] w fun e w' => RP (perr 221 s) (fun cs w' => DV w.heap.size 221 (rseg 221 s).1 cs w') w e w' := by
  refine (RP_rest s w hs).mono fun _ _ h => h.seg (refu_ok (.inr (.inr (.inr (.inl rfl))))) hs (seg221 s) ?_ ?_
  · by_cases h2 : s.size = 2
    · rw [if_pos h2, rnum_two' (show 0 + 1 < s.size by omega), show decide (s.size - (0 + 2) = 0) = true from decide_eq_true (by omega), rneed_yes]
    · rw [if_neg h2]
      by_cases h3 : s.size < 2
      · rw [rnum_out (show s.size < 0 + 2 by omega) (Nat.zero_le _), rneed_err (by show (4:Nat) ≠ 0; decide)]
      · rw [rnum_two' (show 0 + 1 < s.size by omega), show decide (s.size - (0 + 2) = 0) = false from decide_eq_false (by omega), rneed_no rfl]
  · intro hE cs h1
    have h2 : s.size = 2 := by
      apply Classical.byContradiction
      intro h
      rw [if_neg h] at hE
      cases hE
    have e : ((rnum s 2 (0, 0)).1 : Int) = rby2 s 0 := by
      rw [rnum_two' (show 0 + 1 < s.size by omega)]
      unfold rby2 rby
      rw [if_pos (by omega), dif_pos (show 0 < s.size by omega), dif_pos (show 0 + 1 < s.size by omega)]
      show ((s[0].toNat * 256 + s[1].toNat : Nat) : Int) = (s[0].toNat : Int) * 256 + (s[1].toNat : Int)
      omega
    rw [← e] at h1
    exact h1
theorem DP_frame (hs : s.size ≤ 65533) (w : World) (z : Int) (h1 : 192 ≤ z) (h2 : z ≤ 194) : Calls Tryd.prog 12 #[.int .i64 z, .string s] w fun e w' => RP (perr z s) (fun cs w' => DV w.heap.size z (rseg z s).1 cs w') w e w' := by
  refine (RP_frame z h1 h2 s hs w).mono fun _ _ h => h.seg (refu_ok (.inr (.inr (.inr (.inr (.inr (.inl ⟨h1, h2⟩))))))) hs (segF s h1 h2) ?_ ?_
  · unfold eframe
    rfl
  · rintro _ _ ⟨v, h3, h4⟩
    exact ⟨v, rfl, h3, h4⟩
theorem DP_plain (hs : s.size ≤ 65533) (w : World) (z : Int) (h : (224 ≤ z ∧ z ≤ 239) ∨ z = 254) : Calls Tryd.prog 12 #[.int .i64 z, .string s] w fun e w' => RP (perr z s) (fun cs w' => DV w.heap.size z (rseg z s).1 cs w') w e w' := by
  refine (RP_plain s w z h hs).mono fun _ _ g => g.seg (refu_ok (by unfold okz; omega)) hs (segP s h) ?_ ?_
  · show 0 = (rneed (decide (s.size - s.size = 0)) 4 (s.size, 0)).2
    rw [show decide (s.size - s.size = 0) = true from decide_eq_true (by omega), rneed_yes]
  · intro _ cs h1
    exact ⟨rfl, h1⟩
end
theorem DParse_any (z : Int) (s : ByteArray) (w : World) : Calls Tryd.prog 12 #[.int .i64 z, .string s] w fun e w' => RP (perr z s) (fun cs w' => DV w.heap.size z (rseg z s).1 cs w') w e w' := by
  by_cases h0 : refu z = 0
  · have hok : okz z := by
      unfold refu at h0
      unfold okz
      split at h0
      · cases h0
      · split at h0
        · cases h0
        · split at h0
          · assumption
          · cases h0
    by_cases hs : 65533 < s.size
    · have hp : perr z s = 4 := by unfold perr; rw [if_neg (by omega), if_pos hs]
      rw [hp]
      exact RP_long s w z _ hok hs
    · have hs2 : s.size ≤ 65533 := by omega
      by_cases z1 : z = 196
      · subst z1; exact DP_196 s hs2 w
      by_cases z2 : z = 218
      · subst z2; exact DP_218 s hs2 w
      by_cases z3 : z = 219
      · subst z3; exact DP_219 s hs2 w
      by_cases z4 : z = 221
      · subst z4; exact DP_221 s hs2 w
      by_cases z5 : 192 ≤ z ∧ z ≤ 194
      · exact DP_frame s hs2 w z z5.1 z5.2
      · exact DP_plain s hs2 w z (by unfold okz at hok; omega)
  · have hp : perr z s = refu z := by unfold perr; rw [if_pos h0]
    rw [hp]
    have h3 : refu z = 3 ∨ refu z = 1 ∨ refu z = 6 := by
      unfold refu at h0 ⊢
      split
      · exact .inl rfl
      · split
        · exact .inr (.inl rfl)
        · split
          · rename_i h1 h2 h3
            rw [if_neg h1, if_neg h2, if_pos h3] at h0
            exact absurd rfl h0
          · exact .inr (.inr rfl)
    rcases h3 with h | h | h
    · rw [h]
      refine RP_3 s w z _ ?_
      unfold refu at h
      split at h
      · assumption
      · split at h
        · cases h
        · split at h <;> cases h
    · rw [h]
      have h2 : 208 ≤ z ∧ z ≤ 217 := by
        unfold refu at h
        split at h
        · cases h
        · split at h
          · assumption
          · split at h <;> cases h
      exact RP_1 s w z _ h2.1 h2.2
    · rw [h]
      exact RP_6 s w z _ h
end Go.Proofs.YtfohgocdabgbgaaDoor
