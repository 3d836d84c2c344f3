/- A walk of the document's Lengths. -/
import Derived.Test.YtlfnjdgfllhepaaRLens0
namespace Go.Proofs.Ytlfnjdgfllhepaa
open Go.RowKit

/-- The loop's state: groups of a state whose lengths are on their way. -/
structure RJ (B : Nat) (fi : Nat → Int) (f : Nat → Nat) (v : Value) (w wr : World) (gs : List Grp) (s : HS) (m : Nat) : Prop where
  inv : GInv s gs
  fit : Fit (full f) s
  len : gs.length ≤ m + 1
  few : gs.length ≤ 257
  run : hrun 257 (hstart (full f)) = hrun m s
  ls : LS B fi s.L w wr
  gl : GL (B + 3) v gs wr

set_option maxHeartbeats 2000000 in
set_option maxRecDepth 100000 in
theorem RLengths_any (f : Nat → Nat) (fi : Nat → Int) (hfi : ∀ i, i < 256 → fi i = f i) (hf : ∀ i, i < 256 → f i ≤ 1099511627776) (w : World) :
    Calls Try.prog 26 #[.agg (ints 256 fi)] w fun e w' => e = .returned (.agg (ints 257 fun i => (lens f i : Int))) ∧ Below w.heap.size w w' := by
  obtain ⟨A, hA⟩ : ∃ A, A = ints 257 fun i => (lens f i : Int) := ⟨_, rfl⟩
  rw [← hA]
  have HA := Lib.hid hA
  have HFI := Lib.hid hfi
  have HF := Lib.hid hf
  have hz47 := zero47
  clear hA hfi hf
  obtain ⟨wb, hwb⟩ : ∃ wb, wb = ((w.alloc (.cells (ints 256 fi) 22)).alloc (.cells (ints 257 fun _ => 0) 47)).alloc (.cells (ints 257 fun _ => 0) 47) := ⟨_, rfl⟩
  have HL0 : Hid (LS w.heap.size fi (fun _ => 0) w wb) := by
    rw [hwb]
    refine ⟨((RowN.new rfl).old _).old _, ?_, ?_, (((Below.refl _ _).alloc (Nat.le_refl _) _).alloc (by rw [size_alloc]; omega) _).alloc (by rw [size_alloc, size_alloc]; omega) _⟩
    · have h := (RowN.new (t := 47) (N := 257) (f := fun _ => 0) (w := w.alloc (.cells (ints 256 fi) 22)) rfl).old (.cells (ints 257 fun _ => 0) 47)
      rwa [size_alloc] at h
    · have h := RowN.new (t := 47) (N := 257) (f := fun _ => 0) (w := (w.alloc (.cells (ints 256 fi) 22)).alloc (.cells (ints 257 fun _ => 0) 47)) rfl
      rwa [size_alloc, size_alloc] at h
  go_enter Try.func26, Try.ntmps26
  go_wp2
  rw [← hwb]
  clear hwb hz47
  go_loopw [4, 5] (fun v i wr => ∃ n : Nat, n ≤ 256 ∧ i = .int .i64 n ∧ GL (w.heap.size + 3) v (gst f n) wr ∧ LS w.heap.size fi (fun _ => 0) w wr) (fun _ i _ => 256 - (intOf i).toNat)
  case atStart => exact ⟨0, by omega, rfl, GL.nil, HL0.out⟩
  case round =>
    obtain ⟨n, hn, rfl, hgl, hls⟩ := hrel
    have HG := Lib.hid hgl
    have HL := Lib.hid hls
    clear hgl hls
    have hgn := gst_length f n
    by_cases hlt : n < 256
    · have x0 := HL.out.arg.cell (i := n) (by omega)
      rw [HFI.out n hlt] at x0
      by_cases h0 : f n = 0
      · have HS := Lib.hid (gst_skip (f := f) h0)
        rw [h0] at x0
        clear h0
        go_wp2
        go_roundw
        case rel => exact ⟨n + 1, by omega, by go_num, by rw [HS.out]; exact HG.out, HL.out⟩
        case measure => simp [intOf]; omega
      · have HS := Lib.hid (gst_take (f := f) h0)
        have h0' : decide (0 < f n) = true := decide_eq_true (by omega)
        clear h0
        have hls := HL.out.out.lt
        obtain ⟨p, c, hv⟩ := HG.out.len
        subst hv
        generalize hgg : gst f n = gg at *
        have HGG := Lib.hid hgg
        clear hgg
        go_wp2_with (refine wpList_appG (w0 := wr.alloc (.cells #[.int .i64 (n : Int)] 3)) rfl _ _ rfl (w.heap.size + 3) (.slice p gg.length c) gg ⟨n, f n, [n]⟩ _ _ rfl rfl _ rfl _ (size_alloc _ _).symm rfl (HG.out.below ((Below.refl _ _).alloc (Nat.le_refl _) _)) (ViewN.new rfl) (by omega) (by rw [size_alloc]; omega) ?_; intro v' w' g1 b1 k1)
        have HL2 := Lib.hid ((HL.out.on ((Below.refl _ _).alloc (Nat.le_refl _) (.cells #[.int .i64 (n : Int)] 3))).onB b1 (by omega))
        rw [← HS.out] at g1
        have HG2 := Lib.hid g1
        clear g1 b1 k1 HG HGG HS
        exact ⟨⟨n + 1, by omega, by go_num, HG2.out, HL2.out⟩, by simp [intOf]; omega⟩
    · obtain rfl : n = 256 := by omega
      clear hlt
      have hlt := HL.out.out.lt
      obtain ⟨p, c, hv⟩ := HG.out.len
      subst hv
      generalize hgg : gst f 256 = gg at *
      have HGG := Lib.hid hgg
      clear hgg hn
      go_wp2_with (refine wpList_appG (w0 := wr.alloc (.cells #[.int .i64 (256 : Int)] 3)) rfl _ _ rfl (w.heap.size + 3) (.slice p gg.length c) gg ⟨256, 1, [256]⟩ _ _ rfl rfl _ rfl _ (size_alloc _ _).symm rfl (HG.out.below ((Below.refl _ _).alloc (Nat.le_refl _) _)) (ViewN.new rfl) (by omega) (by rw [size_alloc]; omega) ?_; intro v' w1 g1 b1 k1)
      have HL2 := Lib.hid ((HL.out.on ((Below.refl _ _).alloc (Nat.le_refl _) (.cells #[.int .i64 (256 : Int)] 3))).onB b1 (by omega))
      have HJ : Hid (RJ w.heap.size fi f v' w w1 (gg ++ [⟨256, 1, [256]⟩]) (hstart (full f)) 257) := by
        refine ⟨?_, Fit.start (full_out f), ?_, ?_, rfl, HL2.out, g1⟩
        · rw [← HGG.out]; exact GInv.start f
        · rw [List.length_append, List.length_singleton]; omega
        · rw [List.length_append, List.length_singleton]; omega
      clear HL2 g1 b1 k1 HG HGG hlt hgn HL HL0
      go_loopw [4] (fun v wr => ∃ gs s m, RJ w.heap.size fi f v w wr gs s m) (fun v _ => slen v)
      case atStart => exact ⟨_, _, _, HJ.out⟩
      case round =>
        obtain ⟨gs, s, m, hj⟩ := hrel
        obtain ⟨inv, fit, len, few, run, ls, gl⟩ := hj
        clear HJ
        by_cases h2 : 2 ≤ gs.length
        · obtain ⟨a, b, ea, eb, la, lb, hab, hpk⟩ := inv.pick2 (by omega) h2
          obtain ⟨q, cq, rfl, hq⟩ := gl.shape (by omega)
          have HC1 : Hid (∀ x, GL (w.heap.size + 3) (.slice (some ⟨q, 0, none⟩) gs.length cq) gs x → Calls Try.prog 37 #[.slice (some ⟨q, 0, none⟩) gs.length cq, .int .i64 (-1)] x fun e w' => e = .returned (.int .i64 (a : Nat)) ∧ Below x.heap.size x w') := fun x hx =>
            Least_any gs (by omega) (-1) 1000000 (fun i hi => by omega) (w.heap.size + 3) q gs.length cq rfl (some a) ea.symm x hx
          have HC2 : Hid (∀ x, GL (w.heap.size + 3) (.slice (some ⟨q, 0, none⟩) gs.length cq) gs x → Calls Try.prog 37 #[.slice (some ⟨q, 0, none⟩) gs.length cq, .int .i64 (a : Nat)] x fun e w' => e = .returned (.int .i64 (b : Nat)) ∧ Below x.heap.size x w') := fun x hx =>
            Least_any gs (by omega) a a (fun i hi => by omega) (w.heap.size + 3) q gs.length cq rfl (some b) eb.symm x hx
          have HINV := Lib.hid inv
          have HFIT := Lib.hid fit
          have HLEN := Lib.hid len
          have HFEW := Lib.hid few
          have HRUN := Lib.hid run
          have HLS := Lib.hid ls
          have HGL := Lib.hid gl
          have HPK := Lib.hid hpk
          have HAB := Lib.hid hab
          obtain ⟨nn, hnn⟩ : ∃ nn, nn = gs.length := ⟨_, rfl⟩
          have HYtlfnjdgfllhepaa := Lib.hid hnn
          rw [← hnn] at HC1 HC2 HGL la lb h2 ⊢
          clear inv fit len few run ls gl hpk hab hnn ea eb hq
          have h2' : decide ((1 : Int) < (nn : Int)) = true := decide_eq_true (by omega)
          clear h2
          go_upto_region 12 with (first
            | (go_at_call 37; refine (HC1.out wr HGL.out).mono ?_; rintro e w1 ⟨rfl, hb1⟩; have HLS1 := Lib.hid (HLS.out.on hb1); have HGL1 := Lib.hid (HGL.out.below hb1); clear hb1 HC1)
            | (go_at_call 37; refine (HC2.out w1 HGL1.out).mono ?_; rintro e w2 ⟨rfl, hb2⟩; have HLS2 := Lib.hid (HLS1.out.on hb2); have HGL2 := Lib.hid (HGL1.out.below hb2); clear hb2 HC2))
          have HG2 := HGL2.out
          obtain ⟨x0, x1, ua, x2, va⟩ := HG2.cells (by rw [← HYtlfnjdgfllhepaa.out]; exact la)
          obtain ⟨y0, y1, ub, y2, vb⟩ := HG2.cells (by rw [← HYtlfnjdgfllhepaa.out]; exact lb)
          have HVA := Lib.hid va
          have HVB := Lib.hid vb
          obtain ⟨pa, ca, hua⟩ := va.len
          obtain ⟨pb, cb, hub⟩ := vb.len
          obtain ⟨Fa, hFa⟩ : ∃ x, x = (gat gs a).first := ⟨_, rfl⟩
          obtain ⟨Na, hNa⟩ : ∃ x, x = (gat gs a).n := ⟨_, rfl⟩
          obtain ⟨Nb, hNb⟩ : ∃ x, x = (gat gs b).n := ⟨_, rfl⟩
          obtain ⟨Ma, hMa⟩ : ∃ x, x = (gat gs a).all.length := ⟨_, rfl⟩
          obtain ⟨Mb, hMb⟩ : ∃ x, x = (gat gs b).all.length := ⟨_, rfl⟩
          have hsum : Na + Nb < 1000000000000000 := by
            rw [hNa, hNb]
            exact HINV.out.sum HFIT.out HF.out (by rw [← HYtlfnjdgfllhepaa.out]; exact la) (by rw [← HYtlfnjdgfllhepaa.out]; exact lb) HAB.out
          have hfa := (HINV.out.few HFIT.out (gat_mem (by rw [← HYtlfnjdgfllhepaa.out]; exact la))).2
          have hfb := (HINV.out.few HFIT.out (gat_mem (by rw [← HYtlfnjdgfllhepaa.out]; exact lb))).2
          have HFW : Hid ((gat gs a).all.length + (gat gs b).all.length ≤ 600) := by unfold Hid; omega
          clear hfa hfb
          rw [← hFa] at x0
          rw [← hNa] at x1
          rw [← hNb] at y1
          rw [← hMa] at hua
          rw [← hMb] at hub
          subst hua hub
          have HFa := Lib.hid hFa
          have HNa := Lib.hid hNa
          have HNb := Lib.hid hNb
          have HMa := Lib.hid hMa
          have HMb := Lib.hid hMb
          clear hFa hNa hNb hMa hMb va vb HG2 y0
          have hw : wrap64 ((Na : Int) + (Nb : Int)) = ((Na + Nb : Nat) : Int) := by rw [← Int.natCast_add]; exact wrap64_nat _ (by omega)
          have ax0 : ∀ o, (w2.alloc o).cell? { block := q, off := a * 3 } = some (Value.int IntKind.i64 (Fa : Nat)) := fun o => cell_alloc o x0
          have ax1 : ∀ o, (w2.alloc o).cell? { block := q, off := a * 3 + 1 } = some (Value.int IntKind.i64 (Na : Nat)) := fun o => cell_alloc o x1
          have ay1 : ∀ o, (w2.alloc o).cell? { block := q, off := b * 3 + 1 } = some (Value.int IntKind.i64 (Nb : Nat)) := fun o => cell_alloc o y1
          go_region
          obtain ⟨w3, hw3⟩ : ∃ w3, w3 = (w2.alloc (Obj.cells #[Value.int IntKind.i64 (Fa : Nat), Value.int IntKind.i64 ((Na : Nat) + (Nb : Nat)), Value.slice none 0 0] 74)).drew := ⟨_, rfl⟩
          have hb3 : Below w2.heap.size w2 w3 := by rw [hw3]; exact ((Below.refl _ _).alloc (Nat.le_refl _) _).drew
          have HBX : Hid (BoxG w2.heap.size Fa (Na + Nb) (.slice none 0 0) w3) := by
            rw [hw3]
            have h := heap_alloc_new w2 (Obj.cells #[Value.int IntKind.i64 (Fa : Nat), Value.int IntKind.i64 ((Na : Nat) + (Nb : Nat)), Value.slice none 0 0] 74)
            unfold Hid BoxG
            rw [Int.natCast_add]
            exact h
          have HLS3 := Lib.hid (HLS2.out.on hb3)
          have HGL3 := Lib.hid (HGL2.out.below hb3)
          have HVA3 := Lib.hid (HVA.out.on hb3)
          have HVB3 := Lib.hid (HVB.out.on hb3)
          have hq := World.block_lt_of_cell? _ _ x0
          have hls2 := HLS2.out.out.lt
          rw [← hw3]
          obtain ⟨G, hG⟩ : ∃ G, G = w2.heap.size := ⟨_, rfl⟩
          rw [← hG] at HBX hls2 ⊢
          have X2 : Hid (w3.cell? { block := q, off := a * 3 + 2 } = some (Value.slice pa Ma ca)) := cell_below x2 hb3
          have Y2 : Hid (w3.cell? { block := q, off := b * 3 + 2 } = some (Value.slice pb Mb cb)) := cell_below y2 hb3
          have HB23 := Lib.hid hb3
          have HG := Lib.hid hG
          have HQ := Lib.hid hq
          clear hw3 hb3 ax0 ax1 ay1 hw x0 x1 y1 x2 y2 HVA HVB hq HLS HGL HLS1 HGL1 hG hsum
          have x2 := X2.out
          have y2 := Y2.out
          have z2 := HBX.out.c2
          go_upto_region 13 with fail
          obtain ⟨M, hM⟩ : ∃ M, M = ((gat gs a).all ++ (gat gs b).all).length := ⟨_, rfl⟩
          obtain ⟨al, hal⟩ : ∃ al, al = (gat gs a).all ++ (gat gs b).all := ⟨_, rfl⟩
          have HAL := Lib.hid hal
          have HM := Lib.hid hM
          rw [← hal] at HM
          clear hal hM
          go_cut [8] from 35 to 120 (fun v8 wx => v8 = .pointer (some ⟨G, 0, none⟩) ∧ ∃ p5 c5, RS w.heap.size G fi (.slice (some ⟨q, 0, none⟩) nn cq) gs Fa (Na + Nb) (.slice p5 M c5) al s.L w wx)
          case first =>
            go_region_law (first
              | (refine step_appVN (by rfl) _ _ (by rfl) w3.heap.size (.slice none 0 0) (.slice pa Ma ca) [] (gat gs a).all (by rfl) (by rfl) (World.ownsRow_nil _ _ _ _) HVA3.out (by have := HFW.out; simp; omega) (Nat.le_refl _) ?_
                 intro v4 w4 o4 b4 k4
                 rw [List.nil_append] at o4
                 have b34 : Below w3.heap.size w3 w4 := below_undrew b4
                 obtain ⟨p4, c4, rfl⟩ := o4.len
                 have HO4 := Lib.hid o4
                 have HB4 := Lib.hid b34
                 have HVB4 := Lib.hid (HVB3.out.on b34)
                 have x4 := cell_below Y2.out b34
                 have z4 := cell_below HBX.out.c2 b34
                 have f4 := (HBX.out.on b34).free 2
                 clear o4 b4 k4 b34 HVA3 HVB3)
              | (refine step_appVN (by rfl) _ _ (by rfl) w3.heap.size (.slice p4 (gat gs a).all.length c4) (.slice pb Mb cb) (gat gs a).all (gat gs b).all (by rfl) (by rfl) HO4.out HVB4.out (by have := HFW.out; omega) HB4.out.size ?_
                 intro v5 w5 o5 b5 k5
                 have b35 := HB4.out.trans b5
                 obtain ⟨p5, c5, rfl⟩ := o5.len
                 have HO5 := Lib.hid o5
                 have HB5 := Lib.hid b35
                 have z5 := cell_below HBX.out.c2 b35
                 have f5 := (HBX.out.on b35).free 2
                 clear o5 b5 k5 b35 x4 z4 f4))
            all_goals
              go_wp2_with fail
              go_meet
              exact ⟨rfl, p5, c5, by
                rw [HM.out, HAL.out]
                have h := RS.made HLS2.out (HGL2.out) HBX.out HO5.out HG.out HB23.out HB5.out hls2
                rw [List.length_append] at h ⊢
                exact h⟩
          case rest =>
            obtain ⟨rfl, p5, c5, hrs⟩ := hcut
            have HRS := Lib.hid hrs
            have HND : Hid al.Nodup := by
              have h := HINV.out.join (by rw [← HYtlfnjdgfllhepaa.out]; exact la) (by rw [← HYtlfnjdgfllhepaa.out]; exact lb) HAB.out
              have h1 := (h.mem (gjoin gs a b) (List.mem_append_right _ (List.mem_singleton.2 rfl))).2.2.2.1
              unfold Hid
              rw [HAL.out]
              exact h1
            have HX : Hid (∀ x ∈ al, x < 257) := by
              intro x hx
              rw [HAL.out] at hx
              rcases List.mem_append.1 hx with h | h
              · exact (HINV.out.few HFIT.out (gat_mem (by rw [← HYtlfnjdgfllhepaa.out]; exact la))).1 x h
              · exact (HINV.out.few HFIT.out (gat_mem (by rw [← HYtlfnjdgfllhepaa.out]; exact lb))).1 x h
            have HM6 : Hid (M ≤ 600) := by unfold Hid; rw [HM.out, HAL.out, List.length_append]; exact HFW.out
            clear hrs HLS3 HGL3 HBX X2 Y2 HB23 HVA3 HVB3 x2 y2 z2 HLS2 HGL2
            have hm6 := HM6.out
            go_wp2
            go_loopw [9] (fun i wr => ∃ n : Nat, n ≤ M ∧ i = .int .i64 n ∧ RS w.heap.size G fi (.slice (some ⟨q, 0, none⟩) nn cq) gs Fa (Na + Nb) (.slice p5 M c5) al (more s.L (al.take n)) w wr) (fun i _ => M - (intOf i).toNat)
            case atStart => exact ⟨0, by omega, rfl, by rw [List.take_zero, more_nil]; exact HRS.out⟩
            case round =>
              obtain ⟨n, hn, rfl, hrs⟩ := hrel
              have HR2 := Lib.hid hrs
              clear hrs HRS
              have y2 := HR2.out.box.c2
              by_cases hlt : n < M
              · have hnl : n < al.length := by rw [← HM.out]; exact hlt
                obtain ⟨b5, o5, hp5, hx5⟩ : ∃ b5 o5, p5 = some ⟨b5, o5, none⟩ ∧ wr.cell? ⟨b5, o5 + n, none⟩ = some (.int .i64 (al[n] : Nat)) := by
                  have hv := HR2.out.view
                  rw [HM.out] at hv
                  obtain ⟨b5, o5, h1, h2, _⟩ := hv.cell hnl
                  exact ⟨b5, o5, h1, h2⟩
                subst hp5
                have hal : al[n]? = some al[n] := List.getElem?_eq_getElem hnl
                generalize al[n] = x at hx5 hal
                have hx := HX.out x (List.mem_of_getElem? hal)
                have hms := (more_step s.L al HND.out n x hal).2
                have hup := more_upd s.L al HND.out n x hal (more s.L (al.take n) x + 1) (by rw [hms])
                have hf0 := HFIT.out.few x
                have z0 := HR2.out.ls.out.cell (i := x) hx
                have z1 := HR2.out.ls.out.free x
                have HUP := Lib.hid hup
                have hLx : more s.L (al.take n) x ≤ 257 := by rw [hms]; omega
                clear hms hup hf0 hal hnl
                generalize hLL : more s.L (al.take n) x = Lx at *
                have hw : wrap64 ((Lx : Int) + 1) = (Lx : Int) + 1 := wrap64_small _ (by omega) (by omega)
                have hw2 : IntKind.i64.wrap ((Lx : Int) + 1) = (Lx : Int) + 1 := (IntWalk.i64_left _).trans hw
                go_upto_region 17 with fail
                refine wp_region_last _ rfl (by kernel_rfl) (by kernel_rfl) (by kernel_rfl) ?_
                dsimp only [dull]
                repeat (go_big_quiet_step (fail))
                refine wpQuiet_nil ?_
                intro wq hwq
                obtain ⟨nq, rfl⟩ := hwq
                refine wp_store_int _ _ rfl rfl ⟨w.heap.size + 1 + 1, x, none⟩ _ _ rfl rfl z0 z1 ?_
                go_wp2
                go_roundw
                case rel => exact ⟨n + 1, by omega, by go_num, by
                  have h := (HR2.out.on (below_drawn (Below.refl _ _) nq)).set x (Lx + 1)
                  rw [HUP.out] at h
                  exact h⟩
                case measure => simp [intOf]; omega
              · obtain rfl : n = M := by omega
                clear hlt hn
                have hL : more s.L (al.take n) = (s.join (gat gs a).first (gat gs b).first).L := by
                  rw [List.take_of_length_le (by rw [← HM.out]; exact Nat.le_refl _)]
                  funext x
                  have h := HINV.out.more (by rw [← HYtlfnjdgfllhepaa.out]; exact la) (by rw [← HYtlfnjdgfllhepaa.out]; exact lb) x
                  rw [← h]
                  show (if x ∈ al then _ else _) = _
                  rw [HAL.out]
                  rfl
                have HR3 : Hid (RS w.heap.size G fi (.slice (some ⟨q, 0, none⟩) nn cq) gs Fa (Na + Nb) (.slice p5 n c5) al (s.join (gat gs a).first (gat gs b).first).L w wr) := by unfold Hid; rw [← hL]; exact HR2.out
                clear hL HR2 HND HX
                have hb7 := HR3.out.ls.out.lt
                go_wp2
                clear y2
                go_loopw [10, 11] (fun v i wx => ∃ k : Nat, k ≤ nn ∧ i = .int .i64 k ∧ GL wr.heap.size v (oth gs a b k) wx ∧ Below wr.heap.size wr wx) (fun _ i _ => nn - (intOf i).toNat)
                case atStart => exact ⟨0, by omega, rfl, GL.nil, Below.refl _ _⟩
                case round =>
                  obtain ⟨k, hk, rfl, hgl, hbl⟩ := hrel
                  have HG4 := Lib.hid hgl
                  have HB4 := Lib.hid hbl
                  have HR4 := Lib.hid (HR3.out.on hbl)
                  have hsz := hbl.size
                  clear hgl hbl
                  have hne := rest_short gs HAB.out k
                  have hn9 : nn ≤ 257 := by rw [HYtlfnjdgfllhepaa.out]; exact HFEW.out
                  by_cases hkn : k < nn
                  · by_cases hka : k = a
                    · have HS := Lib.hid (oth_skip (l := gs) (a := a) (b := b) (k := k) (.inl hka))
                      have e1 : ((k : Int) != (a : Int)) = false := by simp [hka]
                      clear hka
                      go_wp2
                      go_roundw
                      case rel => exact ⟨k + 1, by omega, by go_num, by rw [HS.out]; exact HG4.out, HB4.out⟩
                      case measure => simp [intOf]; omega
                    · have e1 : ((k : Int) != (a : Int)) = true := by simp; omega
                      have e2 : ¬ (k : Int) = (a : Int) := by omega
                      by_cases hkb : k = b
                      · have HS := Lib.hid (oth_skip (l := gs) (a := a) (b := b) (k := k) (.inr hkb))
                        have e3 : ((k : Int) != (b : Int)) = false := by simp [hkb]
                        clear hka hkb
                        go_wp2
                        go_roundw
                        case rel => exact ⟨k + 1, by omega, by go_num, by rw [HS.out]; exact HG4.out, HB4.out⟩
                        case measure => simp [intOf]; omega
                      · have HS := Lib.hid (oth_take (l := gs) (a := a) (b := b) (k := k) (by omega))
                        have e3 : ((k : Int) != (b : Int)) = true := by simp; omega
                        have e4 : ¬ (k : Int) = (b : Int) := by omega
                        obtain ⟨r0, r1, ur, r2, vr⟩ := HR4.out.gl.cells (by rw [← HYtlfnjdgfllhepaa.out]; exact hkn)
                        obtain ⟨po, co, hvo⟩ := HG4.out.len
                        subst hvo
                        have HVR := Lib.hid vr
                        have hof := hne.2
                        clear hka hkb vr hne
                        generalize hoo : oth gs a b k = oo at *
                        have HOO := Lib.hid hoo
                        clear hoo
                        go_wp2_with (first
                          | refine wpList_loadG rfl _ rfl q (k * 3) rfl _ _ _ r0 r1 r2 ?_
                          | (refine wpList_appG (w0 := wr) rfl _ _ rfl _ (.slice po oo.length co) oo (gat gs k) _ _ rfl rfl ur rfl _ rfl rfl HG4.out HVR.out (by omega) hsz ?_; intro v8 w8 g8 b8 k8))
                        exact ⟨⟨k + 1, by omega, by go_num, by rw [HS.out]; exact g8, HB4.out.trans b8⟩, by simp [intOf]; omega⟩
                  · obtain rfl : k = nn := by omega
                    clear hkn hk
                    obtain ⟨hln, _⟩ := hne
                    rw [if_pos la, if_pos lb] at hln
                    obtain ⟨po, co, hvo⟩ := HG4.out.len
                    subst hvo
                    have r0 := HR4.out.box.c0
                    have r1 := HR4.out.box.c1
                    have r2 := HR4.out.box.c2
                    have HVR : Hid (ViewN (.slice p5 n c5) (gjoin gs a b).all wr) := by
                      have h := HR4.out.view
                      rw [HAL.out] at h
                      exact h
                    have HZ1 : Hid ((Fa : Int) = ((gjoin gs a b).first : Nat)) := by unfold Hid; rw [HFa.out]; rfl
                    have HZ2 : Hid (((Na + Nb : Nat) : Int) = ((gjoin gs a b).n : Nat)) := by unfold Hid; rw [HNa.out, HNb.out]; rfl
                    generalize hoo : oth gs a b k = oo at *
                    have HOO := Lib.hid hoo
                    clear hoo
                    go_wp2_with (first
                      | refine wpList_loadG rfl _ rfl G 0 rfl _ _ _ r0 r1 r2 ?_
                      | (refine wpList_appG (w0 := wr) rfl _ _ rfl _ (.slice po oo.length co) oo (gjoin gs a b) _ _ HZ1.out HZ2.out _ rfl _ rfl rfl HG4.out HVR.out (by omega) hsz ?_; intro v9 w9 g9 b9 k9))
                    have hls9 := HR4.out.ls.onB b9 (by omega)
                    have hgl9 := g9.weak (B' := w.heap.size + 3) (by omega)
                    obtain ⟨p9, c9, hv9⟩ := g9.len
                    have hll : (oo ++ [gjoin gs a b]).length = oo.length + 1 := by simp
                    refine ⟨⟨oo ++ [gjoin gs a b], s.join (gat gs a).first (gat gs b).first, m - 1, ?_, HFIT.out.join HPK.out, ?_, ?_, ?_, hls9, hgl9⟩, ?_⟩
                    · have h := HINV.out.join (by rw [← HYtlfnjdgfllhepaa.out]; exact la) (by rw [← HYtlfnjdgfllhepaa.out]; exact lb) HAB.out
                      rw [← HYtlfnjdgfllhepaa.out, HOO.out] at h
                      exact h
                    · have h := HLEN.out
                      rw [← HYtlfnjdgfllhepaa.out] at h
                      omega
                    · omega
                    · have h := HLEN.out
                      rw [← HYtlfnjdgfllhepaa.out] at h
                      rw [HRUN.out]
                      obtain ⟨m', rfl⟩ : ∃ m', m = m' + 1 := ⟨m - 1, by omega⟩
                      rw [hrun_step HPK.out, Nat.add_sub_cancel]
                    · rw [hv9, hll]
                      show oo.length + 1 < k
                      omega
        · have hpk := inv.pick1 (by omega)
          obtain ⟨p0, c0, hv0⟩ := gl.len
          subst hv0
          have HR : Hid (A = ints 257 fun i => (s.L i : Int)) := by
            unfold Hid
            rw [HA.out]
            unfold lens
            rw [run, hrun_done hpk]
          have HLS := Lib.hid ls
          have h2' : decide ((1 : Int) < (gs.length : Int)) = false := decide_eq_false (by omega)
          generalize gs.length = nn at *
          clear inv fit len few run ls gl hpk h2
          go_wp2_with (first
            | refine wpList_load_row rfl 47 _ rfl (w.heap.size + 1 + 1) rfl 47 _ (0, 0) _ HLS.out.out Try.underlying47 rfl (size47i _) ?_
            | refine wpList_store_row rfl 47 _ _ rfl (w.heap.size + 1) _ rfl rfl 47 _ HLS.out.res (size47i _) ((ints_size _ _).trans (ints_size _ fun i => (s.L i : Int)).symm) (ints_one _ fun i => (s.L i : Int)) ?_)
          refine bodyPost_ret_by (results_cell_row rfl _ _ (w.heap.size + 1) 47 _ (0, 0) _ rfl (RowN.setRow (f' := fun i => (s.L i : Int)) HLS.out.res) Try.underlying47 rfl (size47i _)) rfl ⟨by rw [HR.out], below_setRow HLS.out.low (by omega) _⟩
end Go.Proofs.Ytlfnjdgfllhepaa
