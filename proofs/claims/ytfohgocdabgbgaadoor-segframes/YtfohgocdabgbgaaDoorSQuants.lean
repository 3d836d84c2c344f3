/- Tables one behind the other: what is read, told plainly; quantization tables: read. -/
import Derived.Test.YtfohgocdabgbgaaDoorSRow
import Derived.Laws.OwnMore
namespace Go.Proofs.YtfohgocdabgbgaaDoor
open Go.RowKit

/-- Tables, as long as another one follows. -/
def rlist {α : Type} (rd : Nat × Nat → α × (Nat × Nat)) (s : ByteArray) : Nat → Nat × Nat → List α × (Nat × Nat)
  | 0, p => ([], p)
  | f + 1, p => if rmore s p = true then ((rd p).1 :: (rlist rd s f (rd p).2).1, (rlist rd s f (rd p).2).2) else ([], p)
/-- One table or more. -/
def rall {α : Type} (rd : Nat × Nat → α × (Nat × Nat)) (s : ByteArray) (p : Nat × Nat) : List α × (Nat × Nat) :=
  ((rd p).1 :: (rlist rd s (s.size + 1) (rd p).2).1, (rlist rd s (s.size + 1) (rd p).2).2)
section
variable {α : Type} {rd : Nat × Nat → α × (Nat × Nat)} {s : ByteArray} {p : Nat × Nat} {f : Nat}
theorem rlist_no (h : rmore s p = false) : rlist rd s f p = ([], p) := by
  cases f with
  | zero => rfl
  | succ f => unfold rlist; rw [if_neg (by rw [h]; simp)]
theorem rlist_yes (h : rmore s p = true) : rlist rd s (f + 1) p = ((rd p).1 :: (rlist rd s f (rd p).2).1, (rlist rd s f (rd p).2).2) := if_pos h
theorem rmore_yes (h : rmore s p = true) : p.2 = 0 ∧ 0 < s.size - p.1 := by
  unfold rmore at h
  simpa using h
end
/-- Each table takes a byte or more, or there is an error. -/
def Adv {α : Type} (rd : Nat × Nat → α × (Nat × Nat)) : Prop := ∀ p, (rd p).2.2 = 0 → p.1 + 1 ≤ (rd p).2.1
theorem rneed_fst (ok : Bool) (x : Nat) (p : Nat × Nat) : (rneed ok x p).1 = p.1 := by unfold rneed; split <;> rfl
theorem rnum_le (s : ByteArray) (m : Nat) (p : Nat × Nat) : p.1 ≤ (rnum s m p).2.1 := by
  unfold rnum
  split
  · split
    · exact Nat.le_refl _
    · exact Nat.le_add_right _ _
  · exact Nat.le_refl _
theorem rnum_adv (s : ByteArray) (m : Nat) (p : Nat × Nat) (h : (rnum s m p).2.2 = 0) : (rnum s m p).2.1 = p.1 + m := by
  unfold rnum at h ⊢
  by_cases h0 : p.2 = 0
  · rw [if_pos h0] at h ⊢
    by_cases h1 : s.size - p.1 < m
    · rw [if_pos h1] at h; cases h
    · rw [if_neg h1]
  · rw [if_neg h0] at h; exact absurd h h0
theorem rtab_le (s : ByteArray) (m : Nat) (p : Nat × Nat) : ∀ k, p.1 ≤ (rtab s m p k).1
  | 0 => Nat.le_refl _
  | k + 1 => by
    show p.1 ≤ (rneed _ _ _).1
    rw [rneed_fst]
    exact Nat.le_trans (rtab_le s m p k) (rnum_le _ _ _)
theorem rplace_adv (s : ByteArray) (p : Nat × Nat) (h : (rplace s p).2.2 = 0) : (rplace s p).2.1 = p.1 + 1 := by
  unfold rplace at h ⊢
  rw [show (rneed (decide ((rpair s p).1.1 ≤ 1) && decide ((rpair s p).1.2 ≤ 3)) 5 (rpair s p).2).1 = (rpair s p).2.1 from rneed_fst _ _ _]
  exact rnum_adv s 1 p (rneed_ok h)
theorem rquant_adv (s : ByteArray) : Adv (rquant s) := by
  intro p h
  unfold rquant at h ⊢
  simp only [] at h ⊢
  generalize 64 = K at *
  have h1 := rplace_adv s p (rtab_ok _ _ _ K h)
  have h2 := rtab_le s (1 + (rplace s p).1.1) (rplace s p).2 K
  omega

theorem quantC_size (x : Nat × Nat × (Nat → Nat)) : (quantC x).size = 66 := cells67_size _ _ _
theorem quantC_one (x : Nat × Nat × (Nat → Nat)) : (quantC x).all (·.oneCell') = true := cells67_one _ _ _
theorem info67 : (Tryd.prog.info? 67).map (fun i => (i.zero, i.size, i.bytes)) = some (some (.agg Tryd.zeroCells67), 66, 144) := by kernel_rfl
theorem size62 : (Tryd.prog.info? 62).map (·.size) = some 1 := by kernel_rfl

/-- The loop's state. -/
structure QL {α : Type} (T : TypeId) (n : Nat) (cs : α → Array Value) (tr : Nat × Nat → α × (Nat × Nat)) (R : Array Value) (RT : TypeId) (B k c : Nat) (s : ByteArray) (L : List α) (P : Nat × Nat) (w : World) (f : Nat) (v : Value) (wr : World) (done : List α) (p : Nat × Nat) : Prop where
  rd : Rdd B k c s p wr
  own : OwnR T n cs w.heap.size v done wr
  sum : done.length + f = s.size + 2
  all : L = done ++ (rlist tr s f p).1 ∧ P = (rlist tr s f p).2
  fuel : p.2 = 0 → s.size - p.1 < f
  low : Two k c w wr
  res : wr.heap[w.heap.size]? = some (.cells R RT (0, 0))
  base : B ≤ w.heap.size ∧ w.heap.size < wr.heap.size ∧ w.heap.size ≠ k ∧ w.heap.size ≠ c
def lenV : Value → Nat
  | .slice _ n _ => n
  | _ => 0
theorem OwnR.lenV {α : Type} {T : TypeId} {n B : Nat} {cs : α → Array Value} {v : Value} {l : List α} {w : World} (h : OwnR T n cs B v l w) : lenV v = l.length := by
  obtain ⟨p, m, c, rfl, hm⟩ := h.shape
  exact hm
theorem OwnR.single {α : Type} {T : TypeId} {n B : Nat} {cs : α → Array Value} (hn : ∀ a, (cs a).size = n) (e : α) {w : World} (hB : B ≤ w.heap.size) : OwnR T n cs B (.slice (some ⟨w.heap.size, 0, none⟩) 1 1) [e] (w.alloc (.cells (cs e) T)) := by
  have h := World.ownsRow_lit (base := B) (e := T) (size := n) w (cs e) 1 hB (by unfold maxLen; omega) (by rw [hn]; omega)
  unfold OwnR
  rw [rowC_one]
  exact h
section
variable {α : Type} {T : TypeId} {n : Nat} {cs : α → Array Value} {tr : Nat × Nat → α × (Nat × Nat)} {R : Array Value} {RT : TypeId} {B k c : Nat} {s : ByteArray} {L : List α} {P : Nat × Nat} {w : World} {f : Nat} {v : Value} {wr : World} {done : List α} {p : Nat × Nat}
/-- Ahead of the first round. -/
theorem QL.start (hn : ∀ a, (cs a).size = n) (_had : Adv tr) {w1 : World} (hr : Rdd B k c s (tr p).2 w1) (hb : Two k c (w.alloc (.cells R RT)) w1) (hk : w.heap.size ≠ k ∧ w.heap.size ≠ c ∧ B ≤ w.heap.size) (hL : (rall tr s p).1 = L) (hP : (rall tr s p).2 = P) :
    QL T n cs tr R RT B k c s L P w (s.size + 1) (.slice (some ⟨w1.heap.size, 0, none⟩) 1 1) (w1.alloc (.cells (cs (tr p).1) T)) [(tr p).1] (tr p).2 := by
  have h1 := hb.size
  rw [size_alloc] at h1
  refine ⟨hr.on (below_new _ _), OwnR.single hn _ (by omega), by simp; omega, ⟨?_, ?_⟩, fun h => by omega, ((Two.of (below_new _ _)).trans hb).trans (Two.of (below_new _ _)), ?_, ⟨hk.2.2, by rw [size_alloc]; omega, hk.1, hk.2.1⟩⟩
  · rw [← hL]; rfl
  · rw [← hP]; rfl
  · rw [Below.heap_alloc _ _ _ (by omega), hb.block _ hk.1 hk.2.1 (by rw [size_alloc]; omega)]
    exact heap_alloc_new _ _
/-- A round more. -/
theorem QL.next (had : Adv tr) (h : QL T n cs tr R RT B k c s L P w f v wr done p) (hm : rmore s p = true) {w2 w3 : World} {v3 : Value} (hr : Rdd B k c s (tr p).2 w2) (hb : Two k c wr w2)
    (ho : OwnR T n cs w.heap.size v3 (done ++ [(tr p).1]) w3) (hb3 : Below w.heap.size w2 w3) (hk3 : Lib.OthersKept T none w2 w3) (h1 : T ≠ 87) (h2 : T ≠ 124) (h3 : RT ≠ T) :
    ∃ f', f = f' + 1 ∧ QL T n cs tr R RT B k c s L P w f' v3 w3 (done ++ [(tr p).1]) (tr p).2 := by
  obtain ⟨m1, m2⟩ := rmore_yes hm
  have hf := h.fuel m1
  obtain ⟨f', rfl⟩ : ∃ f', f = f' + 1 := ⟨f - 1, by omega⟩
  refine ⟨f', rfl, ?_, ho, ?_, ⟨?_, ?_⟩, ?_, ?_, ?_, h.base.1, ?_, h.base.2.2⟩
  · refine ⟨?_, ?_, hr.bk, hr.bc, hr.le⟩
    · exact hk3 _ _ hr.box (by simp) (fun c fz e => by simp only [Obj.cells.injEq] at e; exact h1 e.2.1.symm)
    · exact hk3 _ _ hr.cur (by simp) (fun c fz e => by simp only [Obj.cells.injEq] at e; exact h2 e.2.1.symm)
  · have := h.sum
    rw [List.length_append, List.length_singleton]
    omega
  · rw [h.all.1, rlist_yes hm, List.append_assoc]; rfl
  · rw [h.all.2, rlist_yes hm]
  · intro h0
    have := had p h0
    omega
  · exact ⟨hb3.os.trans (h.low.trans hb).os, hb3.tape.trans (h.low.trans hb).tape, hb3.output.trans (h.low.trans hb).output, Nat.le_trans (h.low.trans hb).size hb3.size, fun j j1 j2 jl => (hb3.block j jl).trans ((h.low.trans hb).block j j1 j2 jl)⟩
  · exact hk3 _ _ ((hb.block _ h.base.2.2.1 h.base.2.2.2 h.base.2.1).trans h.res) (by simp) (fun c fz e => by simp only [Obj.cells.injEq] at e; exact h3 e.2.1)
  · have := hb.size
    have := hb3.size
    have := h.base.2.1
    omega
end
set_option maxHeartbeats 2000000 in
theorem quants_two (B k c : Nat) (s : ByteArray) (hs : s.size ≤ 65533) (hB : 0 < B) (w : World) (hT : Tab w) (h : Rdd B k c s (0, 0) w) :
    Calls Tryd.prog 45 #[.pointer (some ⟨k, 0, none⟩)] w fun e w' => ∃ v, e = .returned (.agg #[v]) ∧ OwnR 67 66 quantC B v (rall (rquant s) s (0, 0)).1 w' ∧ Rdd B k c s (rall (rquant s) s (0, 0)).2 w' ∧ Two k c w w' := by
  have hmx : s.size ≤ maxLen := by unfold maxLen; omega
  have HQ := Lib.hid fun p x hT hx => quant_two B k c s hmx p hB x hT hx
  have HM := Lib.hid fun p x hx => more_two B k c s hmx p x hx
  have HT := Lib.hid hT
  have H0 := Lib.hid (h.on (below_new w (.cells #[.slice none 0 0] 62)))
  have HK := Lib.hid (show k ≠ 0 ∧ c ≠ 0 ∧ w.heap.size ≠ k ∧ w.heap.size ≠ c ∧ B ≤ w.heap.size from ⟨by have := h.bk; omega, by have := h.bc; omega, by have := h.lt; omega, by have := h.cur.lt; omega, by have := h.lt; have := h.bk; omega⟩)
  have HSZ := Lib.hid hs
  generalize hL : (rall (rquant s) s (0, 0)).1 = L
  generalize hP : (rall (rquant s) s (0, 0)).2 = P
  have HL := Lib.hid hL
  have HP := Lib.hid hP
  clear h hT hmx hL hP hs
  go_enter Tryd.func45, Tryd.ntmps45
  have HT1 := Lib.hid (HT.out.on (below_new w (.cells #[.slice none 0 0] 62)))
  go_wp2_with (first
    | (go_at_call 64; refine (HQ.out _ _ HT1.out H0.out).mono ?_; rintro e w1 ⟨rfl, hr, hb⟩; have H1 := Lib.hid hr; have HB1 := Lib.hid hb; clear hr hb)
    | refine wpList_bsR _ _ info67 (by decide) (by decide) Tryd.underlying60 rfl _ rfl (quantC (rquant s (0, 0)).1) (quantC_size _) rfl ?_)
  go_loopw [3] (fun v wr => ∃ f done p, QL 67 66 quantC (rquant s) #[.slice none 0 0] 62 B k c s L P w f v wr done p) (fun v _ => s.size + 2 - lenV v)
  case atStart => exact ⟨_, _, _, QL.start quantC_size (rquant_adv s) H1.out HB1.out ⟨HK.out.2.2.1, HK.out.2.2.2.1, HK.out.2.2.2.2⟩ HL.out HP.out⟩
  case round =>
    obtain ⟨f, done, p, hQ⟩ := hrel
    have HQL := Lib.hid hQ
    obtain ⟨q, m, cc, rfl, hm⟩ := hQ.own.shape
    have HLN := Lib.hid hm
    have HMQ := Lib.hid (HM.out p wr hQ.rd)
    have hm0 := hQ.sum
    have hle : done.length ≤ 70000 := by have := hQ.sum; have := HSZ.out; omega
    have HTw := Lib.hid (HT.out.two hQ.low HK.out.1 HK.out.2.1)
    clear hQ hm
    by_cases hmo : rmore s p = true
    · have HMO := Lib.hid hmo
      rw [hmo] at HMQ
      clear hmo hm0
      go_wp2_with (first
        | (go_at_call 60; refine HMQ.out.mono ?_; rintro e w2 ⟨rfl, hr, hb⟩; have H2 := Lib.hid hr; have HB2 := Lib.hid hb; clear hr hb HMQ)
        | (go_at_call 64; refine (HQ.out _ _ (HTw.out.two HB2.out HK.out.1 HK.out.2.1) H2.out).mono ?_; rintro e w3 ⟨rfl, hr, hb⟩; have H3 := Lib.hid hr; have HB3 := Lib.hid (HB2.out.trans hb); clear hr hb)
        | refine wpList_bsR _ _ info67 (by decide) (by decide) Tryd.underlying60 rfl _ rfl (quantC (rquant s p).1) (quantC_size _) rfl ?_
        | (at_builtin; refine wpList_appR quantC_size quantC_one _ _ info67 zero67_size (by decide) (by decide) Tryd.underlying60 rfl _ _ rfl w.heap.size (.slice q m cc) done (rquant s p).1 rfl w3.heap.size rfl rfl (HQL.out.own.rdd HQL.out.rd HB3.out (by decide) (by decide)) (by omega) (by have := HQL.out.base.2.1; have := HB3.out.size; omega) ?_; intro v4 w4 ho hb hk; have HO4 := Lib.hid ho; have HB4 := Lib.hid hb; have HK4 := Lib.hid hk; clear ho hb hk))
      obtain ⟨f', hf, hN⟩ := HQL.out.next (rquant_adv s) HMO.out H3.out HB3.out HO4.out HB4.out HK4.out (by decide) (by decide) (by decide)
      refine ⟨⟨_, _, _, hN⟩, ?_⟩
      have e1 := hN.own.lenV
      have e2 := HQL.out.own.lenV
      have e3 := hN.sum
      rw [e1, e2, List.length_append, List.length_singleton]
      rw [List.length_append, List.length_singleton] at e3
      omega
    · have hmf : rmore s p = false := by simpa using hmo
      have HMO := Lib.hid hmf
      rw [hmf] at HMQ
      have HN0 := Lib.hid hm0
      clear hmo hmf hm0
      go_wp2_with (first
        | (go_at_call 60; refine HMQ.out.mono ?_; rintro e w2 ⟨rfl, hr, hb⟩; have H2 := Lib.hid hr; have HB2 := Lib.hid hb; have hres := (hb.block _ HQL.out.base.2.2.1 HQL.out.base.2.2.2 HQL.out.base.2.1).trans HQL.out.res; have HR2 := Lib.hid hres; have y0 : w2.cell? ⟨w.heap.size, 0, none⟩ = some (.slice none 0 0) := Lib.cell_of_heap hres 0; have z0 := Lib.frozen_of_heap hres 0; clear hr hb HMQ hres))
      have hF : (w2.setCell ⟨w.heap.size, 0, none⟩ (.slice q m cc)).heap[w.heap.size]? = some (.cells #[.slice q m cc] 62 (0, 0)) := by
        have := HR2.out
        simp [World.setCell, Array.getElem?_modify, this]
      have hB := HQL.out.base
      have e1 := HQL.out.all.1
      have e2 := HQL.out.all.2
      rw [rlist_no HMO.out] at e1 e2
      simp only [List.append_nil] at e1 e2
      refine bodyPost_ret_by (results_cell_row rfl _ _ w.heap.size 62 _ (0, 0) _ rfl hF Tryd.underlying62 rfl size62) rfl ⟨_, rfl, ?_, ?_, ?_⟩
      · rw [e1]
        exact OwnR.mono ((HQL.out.own.rdd HQL.out.rd HB2.out (by decide) (by decide)).setCell HR2.out (by decide)) HK.out.2.2.2.2
      · rw [e2]
        exact H2.out.keep (heap_setCell_other _ _ _ _ (Ne.symm hB.2.2.1)) (heap_setCell_other _ _ _ _ (Ne.symm hB.2.2.2))
      · exact Two.cell (HQL.out.low.trans HB2.out) (Nat.le_refl _) _
end Go.Proofs.YtfohgocdabgbgaaDoor
