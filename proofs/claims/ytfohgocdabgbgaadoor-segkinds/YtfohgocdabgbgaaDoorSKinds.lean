/- SegKinds answers true at every code and every body: its walk. -/
import Derived.Test.YtfohgocdabgbgaaDoorSKind
namespace Go.Proofs.YtfohgocdabgbgaaDoor
open Go.RowKit

theorem yesM44 (v : Value) (w : World) : (Instr.typeAssert (.iface 44 v) 23 44 false).run Tryd.prog w = .ok v w := by
  unfold Instr.typeAssert
  simp only [Sem.run_bind, run_underlying Tryd.underlying44, Result.andThen_ok]
  simp
set_option maxHeartbeats 4000000 in
set_option maxRecDepth 100000 in
/-- It is refused. -/
theorem SegKinds_no (z : Int) (s : ByteArray) (E : Nat) (hE : E ≠ 0) (w : World)
    (hP : Calls Tryd.prog 9 #[.int .i64 z, .string s] w fun e w' => e = .returned (.tuple #[.nilIface, .int .i64 E]) ∧ Below w.heap.size w w') :
    Calls Tryd.prog 5 #[.int .i64 z, .string s] w fun e w' => e = .returned (.bool true) ∧ Below w.heap.size w w' := by
  have HP := Lib.hid hP
  have HF := Lib.hid fun x => IsFrame_gen .nilIface false 0 0 0 (.slice none 0 0) [] (Nat.zero_le _) x (OwnR.view (T := 80) (B := 0) cellsP_size OwnR.nil) nil44
  have HS := Lib.hid fun x => IsScan_gen .nilIface false 0 0 0 0 (.slice none 0 0) [] (Nat.zero_le _) x (OwnR.view (T := 117) (B := 0) cellsK_size OwnR.nil) nil49
  have HT := Lib.hid fun x => IsTag_gen .nilIface false 0 ⟨#[]⟩ x nil98
  have HA := Lib.hid awake_any
  have e0 : ((E : Int) != 0) = true := by simp; omega
  clear hP hE
  generalize (E : Int) = Ez at *
  go_enter Tryd.func5, Tryd.ntmps5
  go_upto_region 6 with (first
    | (go_at_call 9; refine HP.out.mono ?_; rintro e w1 ⟨rfl, hb⟩; have HB1 := Lib.hid hb; clear hb HP)
    | (go_at_call 14; refine (HF.out _).mono ?_; rintro e w2 ⟨v2, rfl, ho, hb⟩; obtain ⟨p2, m2, c2, rfl, hm2⟩ := ho.shape; have HB2 := Lib.hid (HB1.out.trans (hb.mono HB1.out.size)); clear hb ho hm2 HF)
    | (go_at_call 15; refine (HS.out _).mono ?_; rintro e w3 ⟨v3, rfl, ho, hb⟩; obtain ⟨p3, m3, c3, rfl, hm3⟩ := ho.shape; have hm30 : m3 = 0 := hm3; clear ho hm3; subst hm30; have hl2 : w2.heap.size < (w2.alloc (.cells #[.int .i64 0, .int .i64 0, .int .i64 0, .slice p2 m2 c2] 44)).heap.size := (by rw [size_alloc]; omega); have G2 := Lib.hid ((hb.block _ hl2).trans (heap_alloc_new _ _)); have HB3 := Lib.hid (HB2.out.trans ((below_new w2 (.cells #[.int .i64 0, .int .i64 0, .int .i64 0, .slice p2 m2 c2] 44)).trans (hb.mono (Nat.le_of_lt hl2)) |>.mono HB2.out.size)); clear hb HS hl2)
    | (go_at_call 16; refine (HT.out _).mono ?_; rintro e w4 ⟨rfl, hb⟩; have hl3 : w3.heap.size < (w3.alloc (.cells #[.slice p3 0 c3, .int .i64 0, .int .i64 0, .int .i64 0, .int .i64 0] 49)).heap.size := (by rw [size_alloc]; omega); have hbb := (below_new w3 (.cells #[.slice p3 0 c3, .int .i64 0, .int .i64 0, .int .i64 0, .int .i64 0] 49)).trans (hb.mono (Nat.le_of_lt hl3)); have G3 := Lib.hid ((hb.block _ hl3).trans (heap_alloc_new _ _)); have G2' := Lib.hid ((hbb.block _ (Array.getElem?_eq_some_iff.1 G2.out).1).trans G2.out); have HB4 := Lib.hid (HB3.out.trans (hbb.mono HB3.out.size)); clear hb HT hl3 hbb))
  go_wp2_with (go_at_call 10; refine (HA.out _).mono ?_; rintro e w5 ⟨rfl, hb⟩; have hl4 : w4.heap.size < (w4.alloc (.cells #[.int .i64 0, .string ⟨#[]⟩] 53)).heap.size := (by rw [size_alloc]; omega); have hbb := (below_new w4 (.cells #[.int .i64 0, .string ⟨#[]⟩] 53)).trans (hb.mono (Nat.le_of_lt hl4)); have g4 := (hb.block _ hl4).trans (heap_alloc_new _ _); have g3 := (hbb.block _ (Array.getElem?_eq_some_iff.1 G3.out).1).trans G3.out; have g2 := (hbb.block _ (Array.getElem?_eq_some_iff.1 G2'.out).1).trans G2'.out; have x0 : w5.cell? ⟨w2.heap.size, 0, none⟩ = some (.int .i64 0) := Lib.cell_of_heap g2 0; have x1 : w5.cell? ⟨w3.heap.size, 0, none⟩ = some (.slice p3 0 c3) := Lib.cell_of_heap g3 0; have x2 : w5.cell? ⟨w4.heap.size, 0, none⟩ = some (.int .i64 0) := Lib.cell_of_heap g4 0; have x3 : w5.cell? ⟨w4.heap.size, 1, none⟩ = some (.string ⟨#[]⟩) := Lib.cell_of_heap g4 1; have HB5 := Lib.hid (HB4.out.trans (hbb.mono HB4.out.size)); clear hb hl4 hbb g4 g3 g2 HA)
  go_ret
  exact ⟨rfl, HB5.out⟩
/-- What a world must hold, that is kept. -/
def Kept (Ψ : Value → World → Prop) : Prop := ∀ V x x', Ψ V x → Below x.heap.size x x' → Ψ V x'
set_option maxHeartbeats 4000000 in
set_option maxRecDepth 100000 in
/-- It is read. -/
theorem SegKinds_yes (z : Int) (s : ByteArray) (bf bs bt : Bool) (Ψ : Value → World → Prop) (hΨ : Kept Ψ) (fz fh fu : Int) (nf : Nat) (xf xt xh xu : Int) (nx : Nat) (tz : Int) (ts : ByteArray) (w : World)
    (hP : Calls Tryd.prog 9 #[.int .i64 z, .string s] w fun e w' => ∃ V, e = .returned (.tuple #[V, .int .i64 0]) ∧ Ψ V w' ∧ Below w.heap.size w w')
    (hF : ∀ V x, Ψ V x → Calls Tryd.prog 14 #[V] x fun e w' => ∃ p c, e = .returned (.tuple #[.agg #[.int .i64 fz, .int .i64 fh, .int .i64 fu, .slice p nf c], .bool bf]) ∧ Below x.heap.size x w')
    (hS : ∀ V x, Ψ V x → Calls Tryd.prog 15 #[V] x fun e w' => ∃ p c, e = .returned (.tuple #[.agg #[.slice p nx c, .int .i64 xf, .int .i64 xt, .int .i64 xh, .int .i64 xu], .bool bs]) ∧ Below x.heap.size x w')
    (hT : ∀ V x, Ψ V x → Calls Tryd.prog 16 #[V] x fun e w' => e = .returned (.tuple #[.agg #[.int .i64 tz, .string ts], .bool bt]) ∧ Below x.heap.size x w')
    (hM : ∀ V x, Ψ V x → bf = true → Calls Tryd.prog 17 #[V] x fun e w' => ∃ p c, e = .returned (.agg #[.int .i64 fz, .int .i64 fh, .int .i64 fu, .slice p nf c]) ∧ Below x.heap.size x w')
    (e1 : decide (z ≤ 194) = bf) (e2 : (z == 218) = bs) (e3 : decide (224 ≤ z) = bt) (hb : (bf = true ∧ bs = false ∧ bt = false) ∨ (bf = false ∧ bs = true ∧ bt = false) ∨ (bf = false ∧ bs = false ∧ bt = true ∧ tz = z ∧ ts = s) ∨ (bf = false ∧ bs = false ∧ bt = false)) :
    Calls Tryd.prog 5 #[.int .i64 z, .string s] w fun e w' => e = .returned (.bool true) ∧ Below w.heap.size w w' := by
  have HP := Lib.hid hP
  have HF := Lib.hid hF
  have HS := Lib.hid hS
  have HT := Lib.hid hT
  have HM := Lib.hid hM
  have HK := Lib.hid hΨ
  have HA := Lib.hid awake_any
  clear hP hF hS hT hM hΨ
  rcases hb with ⟨rfl, rfl, rfl⟩ | ⟨rfl, rfl, rfl⟩ | ⟨rfl, rfl, rfl, rfl, rfl⟩ | ⟨rfl, rfl, rfl⟩
  all_goals
    go_enter Tryd.func5, Tryd.ntmps5
    go_upto_region 5 with (first
      | (go_at_call 9; refine HP.out.mono ?_; rintro e w1 ⟨V, rfl, hp, hb⟩; have P1 := Lib.hid hp; have HB1 := Lib.hid hb; clear hb hp HP)
      | (go_at_call 14; refine (HF.out V _ P1.out).mono ?_; rintro e w2 ⟨p2, c2, rfl, hb⟩; have P2 := Lib.hid (HK.out V _ _ P1.out hb); have HB2 := Lib.hid (HB1.out.trans (hb.mono HB1.out.size)); clear hb HF)
      | (go_at_call 15; have hbn := below_new w2 (.cells #[.int .i64 fz, .int .i64 fh, .int .i64 fu, .slice p2 nf c2] 44); refine (HS.out V _ (HK.out V _ _ P2.out hbn)).mono ?_; rintro e w3 ⟨p3, c3, rfl, hb⟩; have hl2 : w2.heap.size < (w2.alloc (.cells #[.int .i64 fz, .int .i64 fh, .int .i64 fu, .slice p2 nf c2] 44)).heap.size := (by rw [size_alloc]; omega); have hbb := hbn.trans (hb.mono (Nat.le_of_lt hl2)); have P3 := Lib.hid (HK.out V _ _ P2.out hbb); have G2 := Lib.hid ((hb.block _ hl2).trans (heap_alloc_new _ _)); have HB3 := Lib.hid (HB2.out.trans (hbb.mono HB2.out.size)); clear hb HS hl2 hbn hbb)
      | (go_at_call 16; have hbn := below_new w3 (.cells #[.slice p3 nx c3, .int .i64 xf, .int .i64 xt, .int .i64 xh, .int .i64 xu] 49); refine (HT.out V _ (HK.out V _ _ P3.out hbn)).mono ?_; rintro e w4 ⟨rfl, hb⟩; clear hbn; have hl3 : w3.heap.size < (w3.alloc (.cells #[.slice p3 nx c3, .int .i64 xf, .int .i64 xt, .int .i64 xh, .int .i64 xu] 49)).heap.size := (by rw [size_alloc]; omega); have hbb := (below_new w3 (.cells #[.slice p3 nx c3, .int .i64 xf, .int .i64 xt, .int .i64 xh, .int .i64 xu] 49)).trans (hb.mono (Nat.le_of_lt hl3)); have P4 := Lib.hid (HK.out V _ _ P3.out hbb); have G3 := Lib.hid ((hb.block _ hl3).trans (heap_alloc_new _ _)); have G2' := Lib.hid ((hbb.block _ (Array.getElem?_eq_some_iff.1 G2.out).1).trans G2.out); have HB4 := Lib.hid (HB3.out.trans (hbb.mono HB3.out.size)); clear hb HT hl3 hbb))
    obtain ⟨W, hW⟩ : ∃ W, W = w4.alloc (.cells #[.int .i64 tz, .string ts] 53) := ⟨_, rfl⟩
    rw [← hW]
    have hb4 := below_new w4 (.cells #[.int .i64 tz, .string ts] 53)
    rw [← hW] at hb4
    have g4 := heap_alloc_new w4 (.cells #[.int .i64 tz, .string ts] 53)
    rw [← hW] at g4
    have P5 := Lib.hid (HK.out V _ _ P4.out hb4)
    have HB5 := Lib.hid (HB4.out.trans (hb4.mono HB4.out.size))
    have G4 := Lib.hid g4
    have G2'' := Lib.hid ((hb4.block _ (Array.getElem?_eq_some_iff.1 G2'.out).1).trans G2'.out)
    clear hb4 g4 hW
    go_wp2_with (first
      | (go_at_call 17; refine (HM.out V _ P5.out trivial).mono ?_; rintro e w5 ⟨p5, c5, rfl, hb⟩; have g2 := (hb.block _ (Array.getElem?_eq_some_iff.1 G2''.out).1).trans G2''.out; have HB6 := Lib.hid (HB5.out.trans (hb.mono HB5.out.size)); have x0 := cell_below (show w5.cell? ⟨w2.heap.size, 0, none⟩ = some (.int .i64 fz) from Lib.cell_of_heap g2 0) (below_new w5 (.cells #[.int .i64 fz, .int .i64 fh, .int .i64 fu, .slice p5 nf c5] 44)); have x1 := cell_below (show w5.cell? ⟨w2.heap.size, 1, none⟩ = some (.int .i64 fh) from Lib.cell_of_heap g2 1) (below_new w5 (.cells #[.int .i64 fz, .int .i64 fh, .int .i64 fu, .slice p5 nf c5] 44)); have x2 := cell_below (show w5.cell? ⟨w2.heap.size, 2, none⟩ = some (.int .i64 fu) from Lib.cell_of_heap g2 2) (below_new w5 (.cells #[.int .i64 fz, .int .i64 fh, .int .i64 fu, .slice p5 nf c5] 44)); have x3 := cell_below (show w5.cell? ⟨w2.heap.size, 3, none⟩ = some (.slice p2 nf c2) from Lib.cell_of_heap g2 3) (below_new w5 (.cells #[.int .i64 fz, .int .i64 fh, .int .i64 fu, .slice p5 nf c5] 44)); clear hb g2 HM)
      | (go_at_call 10; refine (HA.out W).mono ?_; rintro e w7 ⟨rfl, hb⟩; have g4 := (hb.block _ (Array.getElem?_eq_some_iff.1 G4.out).1).trans G4.out; have y0 : w7.cell? ⟨w4.heap.size, 0, none⟩ = some (.int .i64 tz) := Lib.cell_of_heap g4 0; have y1 : w7.cell? ⟨w4.heap.size, 1, none⟩ = some (.string ts) := Lib.cell_of_heap g4 1; have HB7 := Lib.hid (HB5.out.trans (hb.mono HB5.out.size)); clear hb g4 HA)
      | (go_at_call 10; refine (HA.out _).mono ?_; rintro e w7 ⟨rfl, hb⟩; have HB7 := Lib.hid (HB6.out.trans (((below_new w5 (.cells #[.int .i64 fz, .int .i64 fh, .int .i64 fu, .slice p5 nf c5] 44)).trans (hb.mono (by rw [size_alloc]; omega))).mono HB6.out.size)); clear hb HA))
    go_ret
    exact ⟨rfl, HB7.out⟩
theorem refu_known {z : Int} (h : refu z = 0) : z = 196 ∨ z = 218 ∨ z = 219 ∨ z = 221 ∨ z = 254 ∨ (192 ≤ z ∧ z ≤ 194) ∨ (224 ≤ z ∧ z ≤ 239) := by
  unfold refu at h
  split at h
  · cases h
  · split at h
    · cases h
    · split at h
      · assumption
      · cases h
theorem rpk_many (s : ByteArray) (p : Nat × Nat) : (rscan s p).1.1.length ≤ 255 := by
  unfold rscan
  simp only []
  rw [rpk_length]
  have := rnum_one s p
  omega
theorem rps_many (s : ByteArray) (p : Nat × Nat) : (rframe s p).1.2.2.length ≤ 255 := by
  unfold rframe
  simp only []
  rw [rps_length]
  exact Nat.le_of_lt_succ (rnum_one s _)
theorem own_slice {α : Type} {T : TypeId} {n B : Nat} {cs : α → Array Value} {v : Value} {l : List α} {w : World} (h : OwnR T n cs B v l w) : ∃ p c, v = .slice p l.length c := by
  obtain ⟨p, m, c, rfl, hm⟩ := h.shape
  exact ⟨p, c, by rw [show m = l.length from hm]⟩
theorem nilP (w : World) : RowV 4 cellsP (.slice none 0 0) [] w := OwnR.view (T := 80) (B := 0) cellsP_size OwnR.nil
theorem nilK (w : World) : RowV 3 cellsK (.slice none 0 0) [] w := OwnR.view (T := 117) (B := 0) cellsK_size OwnR.nil
theorem no44f {V : Value} (h : ∀ w, (Instr.typeAssert V 23 44 true).run Tryd.prog w = .ok (.tuple #[.agg zero44, .bool false]) w) (x : World) : Calls Tryd.prog 14 #[V] x fun e w' => ∃ p c, e = .returned (.tuple #[.agg #[.int .i64 0, .int .i64 0, .int .i64 0, .slice p 0 c], .bool false]) ∧ Below x.heap.size x w' :=
  (IsFrame_gen V false 0 0 0 (.slice none 0 0) [] (Nat.zero_le _) x (nilP x) h).mono fun e w' ⟨v, h1, h2, h3⟩ => by
    obtain ⟨p, c, rfl⟩ := own_slice h2
    exact ⟨p, c, h1, h3⟩
theorem no49f {V : Value} (h : ∀ w, (Instr.typeAssert V 23 49 true).run Tryd.prog w = .ok (.tuple #[.agg zero49, .bool false]) w) (x : World) : Calls Tryd.prog 15 #[V] x fun e w' => ∃ p c, e = .returned (.tuple #[.agg #[.slice p 0 c, .int .i64 0, .int .i64 0, .int .i64 0, .int .i64 0], .bool false]) ∧ Below x.heap.size x w' :=
  (IsScan_gen V false 0 0 0 0 (.slice none 0 0) [] (Nat.zero_le _) x (nilK x) h).mono fun e w' ⟨v, h1, h2, h3⟩ => by
    obtain ⟨p, c, rfl⟩ := own_slice h2
    exact ⟨p, c, h1, h3⟩
theorem no98f {V : Value} (h : ∀ w, (Instr.typeAssert V 23 98 true).run Tryd.prog w = .ok (.tuple #[.agg zero98, .bool false]) w) (x : World) : Calls Tryd.prog 16 #[V] x fun e w' => e = .returned (.tuple #[.agg #[.int .i64 0, .string ⟨#[]⟩], .bool false]) ∧ Below x.heap.size x w' :=
  IsTag_gen V false 0 ⟨#[]⟩ x h
theorem SegKinds_any (z : Int) (s : ByteArray) (w : World) (hT : Tab w) : Calls Tryd.prog 5 #[.int .i64 z, .string s] w fun e w' => e = .returned (.bool true) ∧ Below w.heap.size w w' := by
  have hP := Parse_any z s w hT
  by_cases he : perr z s = 0
  · have hz : refu z = 0 := by
      unfold perr at he
      by_cases h : refu z = 0
      · exact h
      · rw [if_pos h] at he; exact absurd he h
    have hk := refu_known hz
    have hQ : Calls Tryd.prog 9 #[.int .i64 z, .string s] w fun e w' => ∃ V, e = .returned (.tuple #[V, .int .i64 0]) ∧ SegV w.heap.size (rseg z s).1 V w' ∧ Below w.heap.size w w' := hP.mono fun e w' h => by
      rcases h.1 with ⟨_, V, h1, h2⟩ | ⟨h1, _⟩
      · exact ⟨V, h1, h2, h.2⟩
      · exact absurd he h1
    have hΨ : Kept (SegV w.heap.size (rseg z s).1) := fun V x x' h hb => h.on hb
    clear hP
    by_cases h1 : z = 196
    · subst h1
      refine SegKinds_yes 196 s false false false _ hΨ 0 0 0 0 0 0 0 0 0 0 ⟨#[]⟩ w hQ ?_ ?_ ?_ ?_ (by decide) (by decide) (by decide) (.inr (.inr (.inr ⟨rfl, rfl, rfl⟩)))
      · rintro V x ⟨v, rfl, _⟩; exact no44f (no44 (by decide) _) x
      · rintro V x ⟨v, rfl, _⟩; exact no49f (no49 (by decide) _) x
      · rintro V x ⟨v, rfl, _⟩; exact no98f (no98 (by decide) _) x
      · intro V x _ h; cases h
    by_cases h2 : z = 218
    · subst h2
      refine SegKinds_yes 218 s false true false _ hΨ 0 0 0 0 ((rscan s (0, 0)).1.2.1 : Nat) ((rscan s (0, 0)).1.2.2.1 : Nat) ((rscan s (0, 0)).1.2.2.2.1 : Nat) ((rscan s (0, 0)).1.2.2.2.2 : Nat) (rscan s (0, 0)).1.1.length 0 ⟨#[]⟩ w hQ ?_ ?_ ?_ ?_ (by decide) (by decide) (by decide) (.inr (.inl ⟨rfl, rfl, rfl⟩))
      · rintro V x ⟨v, rfl, _⟩; exact no44f (no44 (by decide) _) x
      · rintro V x ⟨v, rfl, ho⟩
        exact (IsScan_gen _ true _ _ _ _ v _ (Nat.le_trans (rpk_many s (0, 0)) (by decide)) x (ho.view cellsK_size) (yes49 _)).mono fun e w' ⟨u, a1, a2, a3⟩ => by
          obtain ⟨p, c, rfl⟩ := own_slice a2
          exact ⟨p, c, a1, a3⟩
      · rintro V x ⟨v, rfl, _⟩; exact no98f (no98 (by decide) _) x
      · intro V x _ h; cases h
    by_cases h3 : z = 219
    · subst h3
      refine SegKinds_yes 219 s false false false _ hΨ 0 0 0 0 0 0 0 0 0 0 ⟨#[]⟩ w hQ ?_ ?_ ?_ ?_ (by decide) (by decide) (by decide) (.inr (.inr (.inr ⟨rfl, rfl, rfl⟩)))
      · rintro V x ⟨v, rfl, _⟩; exact no44f (no44 (by decide) _) x
      · rintro V x ⟨v, rfl, _⟩; exact no49f (no49 (by decide) _) x
      · rintro V x ⟨v, rfl, _⟩; exact no98f (no98 (by decide) _) x
      · intro V x _ h; cases h
    by_cases h4 : z = 221
    · subst h4
      refine SegKinds_yes 221 s false false false _ hΨ 0 0 0 0 0 0 0 0 0 0 ⟨#[]⟩ w hQ ?_ ?_ ?_ ?_ (by decide) (by decide) (by decide) (.inr (.inr (.inr ⟨rfl, rfl, rfl⟩)))
      · rintro V x hv; obtain rfl : V = _ := hv; exact no44f (no44 (by decide) _) x
      · rintro V x hv; obtain rfl : V = _ := hv; exact no49f (no49 (by decide) _) x
      · rintro V x hv; obtain rfl : V = _ := hv; exact no98f (no98 (by decide) _) x
      · intro V x _ h; cases h
    by_cases h5 : 192 ≤ z ∧ z ≤ 194
    · have hr : (rseg z s).1 = PS.frame z ((rframe s (0, 0)).1.1 : Nat) ((rframe s (0, 0)).1.2.1 : Nat) (rframe s (0, 0)).1.2.2 := by
        unfold rseg
        rw [if_neg h1, if_neg h2, if_neg h3, if_neg h4, if_pos h5]
      rw [hr] at hQ hΨ
      refine SegKinds_yes z s true false false _ hΨ z ((rframe s (0, 0)).1.1 : Nat) ((rframe s (0, 0)).1.2.1 : Nat) (rframe s (0, 0)).1.2.2.length 0 0 0 0 0 0 ⟨#[]⟩ w hQ ?_ ?_ ?_ ?_ (decide_eq_true (by omega)) (by rw [beq_eq_false_iff_ne]; exact h2) (decide_eq_false (by omega)) (.inl ⟨rfl, rfl, rfl⟩)
      · rintro V x ⟨v, rfl, ho⟩
        exact (IsFrame_gen _ true _ _ _ v _ (Nat.le_trans (rps_many s (0, 0)) (by decide)) x (ho.view cellsP_size) (yes44 _)).mono fun e w' ⟨u, a1, a2, a3⟩ => by
          obtain ⟨p, c, rfl⟩ := own_slice a2
          exact ⟨p, c, a1, a3⟩
      · rintro V x ⟨v, rfl, _⟩; exact no49f (no49 (by decide) _) x
      · rintro V x ⟨v, rfl, _⟩; exact no98f (no98 (by decide) _) x
      · rintro V x ⟨v, rfl, ho⟩ _
        exact (MustFrame_gen _ _ _ _ v _ (Nat.le_trans (rps_many s (0, 0)) (by decide)) x (ho.view cellsP_size) (yesM44 _)).mono fun e w' ⟨u, a1, a2, a3⟩ => by
          obtain ⟨p, c, rfl⟩ := own_slice a2
          exact ⟨p, c, a1, a3⟩
    have hr : (rseg z s).1 = PS.plain z s := by
      unfold rseg
      rw [if_neg h1, if_neg h2, if_neg h3, if_neg h4, if_neg h5]
    rw [hr] at hQ hΨ
    refine SegKinds_yes z s false false true _ hΨ 0 0 0 0 0 0 0 0 0 z s w hQ ?_ ?_ ?_ ?_ (decide_eq_false (by omega)) (by rw [beq_eq_false_iff_ne]; exact h2) (decide_eq_true (by omega)) (.inr (.inr (.inl ⟨rfl, rfl, rfl, rfl, rfl⟩)))
    · rintro V x hv; obtain rfl : V = _ := hv; exact no44f (no44 (by decide) _) x
    · rintro V x hv; obtain rfl : V = _ := hv; exact no49f (no49 (by decide) _) x
    · rintro V x hv; obtain rfl : V = _ := hv; exact IsTag_gen _ true z s x (yes98 _)
    · intro V x _ h; cases h
  · refine SegKinds_no z s (perr z s) he w (hP.mono fun e w' h => ?_)
    rcases h.1 with ⟨h1, _⟩ | ⟨_, h2⟩
    · exact absurd h1 he
    · exact ⟨h2, h.2⟩
end Go.Proofs.YtfohgocdabgbgaaDoor
