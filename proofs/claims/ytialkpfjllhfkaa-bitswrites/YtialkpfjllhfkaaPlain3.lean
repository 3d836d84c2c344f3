/- What a writer makes of calls, one behind the other: plain facts. -/
import Derived.Test.YtialkpfjllhfkaaBit
namespace Go.Proofs.Ytialkpfjllhfkaa

/-- A call: which one, and its two numbers. -/
abbrev Call3 := Nat × Int × Int
def isPut (a : Call3) : Bool := a.1 % 6 < 5
/-- Bytes up to the last marker and bits behind it, behind one call more. -/
def stepW (st : List UInt8 × List Bool) (a : Call3) : List UInt8 × List Bool := if isPut a then (st.1, st.2 ++ putBits a.2.1 a.2.2) else markS st.1 st.2 a.2.1
def runW (l : List Call3) : List UInt8 × List Bool := l.foldl stepW ([], [])
def errW (a : Call3) : Nat := if isPut a then putErr a.2.1 a.2.2 else markErr a.2.1
theorem runW_snoc (l : List Call3) (a : Call3) : runW (l ++ [a]) = stepW (runW l) a := by simp [runW]
theorem putBits_length (v z : Int) : (putBits v z).length ≤ 16 := by
  unfold putBits
  split
  · simp
  · split
    · simp
    · rw [bitsOf_length]; omega
theorem stepW_size (st : List UInt8 × List Bool) (a : Call3) : (stepW st a).1.length + (stepW st a).2.length ≤ st.1.length + st.2.length + 16 := by
  unfold stepW
  split
  · have := putBits_length a.2.1 a.2.2
    simp only [List.length_append]
    omega
  · unfold markS
    split
    · simp only []; omega
    · have := stuff_length ((st.2.length + 7) / 8) st.2 (by omega)
      simp only [List.length_append, List.length_cons, List.length_nil]
      omega
theorem foldW_size (l : List Call3) : ∀ st : List UInt8 × List Bool, (l.foldl stepW st).1.length + (l.foldl stepW st).2.length ≤ st.1.length + st.2.length + 16 * l.length := by
  induction l with
  | nil => intro st; simp
  | cons a l ih =>
    intro st
    have h1 := ih (stepW st a)
    have h2 := stepW_size st a
    simp only [List.foldl_cons, List.length_cons]
    omega
theorem runW_size (l : List Call3) : (runW l).1.length + (runW l).2.length ≤ 16 * l.length := by
  have := foldW_size l ([], [])
  simp only [List.length_nil, Nat.add_zero, Nat.zero_add] at this
  exact this
theorem runW_take (L : List Call3) (k : Nat) (hL : L.length ≤ 200) : (runW (L.take k)).1.length + (runW (L.take k)).2.length ≤ 800000 := by
  have h1 := runW_size (L.take k)
  have h2 := List.length_take_le k L
  have h3 : (L.take k).length ≤ L.length := by rw [List.length_take]; omega
  omega

/-- How many markers stand in bytes: none, if an ff is the last one. -/
def scan : List UInt8 → Option Nat
  | [] => some 0
  | [b] => if b = 255 then none else some 0
  | b :: c :: l => if b = 255 then (scan l).map (· + if c = 0 then 0 else 1) else scan (c :: l)
theorem scan_data (n : Nat) (h : n < 256) (t : List UInt8) : scan (data n ++ t) = scan t := by
  unfold data
  split
  · simp [scan]
  · rename_i h1
    have hne : n.toUInt8 ≠ 255 := by
      intro e
      have := congrArg UInt8.toNat e
      simp at this
      omega
    cases t with
    | nil => simp [scan, hne]
    | cons c t =>
      show scan (n.toUInt8 :: c :: t) = _
      rw [scan, if_neg hne]
theorem scan_whole (t : List UInt8) : ∀ (n : Nat) (L : List Bool), L.length ≤ 8 * n + 7 → scan (whole L ++ t) = scan t := by
  intro n
  induction n with
  | zero => intro L h; rw [whole_short L (by omega)]; rfl
  | succ n ih =>
    intro L h
    by_cases h8 : 8 ≤ L.length
    · have hv := val_lt (L.take 8)
      rw [List.length_take, show min 8 L.length = 8 by omega] at hv
      rw [whole_long L h8, List.append_assoc, scan_data _ (by omega), ih (L.drop 8) (by rw [List.length_drop]; omega)]
    · rw [whole_short L (by omega)]; rfl
theorem scan_stuff (L : List Bool) (t : List UInt8) : scan (stuff L ++ t) = scan t := by
  unfold stuff
  exact scan_whole t ((L ++ List.replicate ((8 - L.length % 8) % 8) true).length / 8) _ (by omega)
/-- How many calls put a marker. -/
def isMark (a : Call3) : Bool := !isPut a && errW a == 0
def marks (l : List Call3) : Nat := (l.filter isMark).length
theorem marks_snoc (l : List Call3) (a : Call3) : marks (l ++ [a]) = marks l + if isMark a then 1 else 0 := by
  unfold marks
  rw [List.filter_append]
  cases h : isMark a <;> simp [h]
theorem scan_step (st : List UInt8 × List Bool) (m : Nat) (a : Call3) (h : ∀ t, scan (st.1 ++ t) = (scan t).map (· + m)) : ∀ t, scan ((stepW st a).1 ++ t) = (scan t).map (· + (m + if isMark a then 1 else 0)) := by
  intro t
  unfold isMark errW stepW
  cases hp : isPut a with
  | true => simp [h t]
  | false =>
    simp only [Bool.false_eq_true, if_false, Bool.not_false, Bool.true_and]
    unfold markS markErr
    split
    · simp [h t]
    · rename_i hz
      simp only [List.append_assoc]
      rw [h, scan_stuff]
      have hne : a.2.1.toNat.toUInt8 ≠ 0 := by
        intro e
        have := congrArg UInt8.toNat e
        simp at this
        omega
      have e : scan ([255, a.2.1.toNat.toUInt8] ++ t) = (scan t).map (· + 1) := by
        show scan (255 :: a.2.1.toNat.toUInt8 :: t) = _
        rw [scan, if_pos rfl, if_neg hne]
      rw [e]
      cases scan t <;> simp
      omega
theorem scan_fold (l : List Call3) : ∀ (st : List UInt8 × List Bool) (m : Nat), (∀ t, scan (st.1 ++ t) = (scan t).map (· + m)) → ∀ t, scan ((l.foldl stepW st).1 ++ t) = (scan t).map (· + (m + marks l)) := by
  induction l with
  | nil => intro st m h t; simpa [marks] using h t
  | cons a l ih =>
    intro st m h t
    have := ih (stepW st a) _ (scan_step st m a h) t
    rw [List.foldl_cons, this]
    have e : marks (a :: l) = (if isMark a then 1 else 0) + marks l := by
      unfold marks
      cases h : isMark a <;> simp [h]
      omega
    rw [e]
    congr 1
    funext x
    omega
theorem scan_run (l : List Call3) : scan ((runW l).1 ++ stuff (runW l).2) = some (marks l) := by
  have h := scan_fold l ([], []) 0 (fun t => by cases h : scan t <;> simp [h]) (stuff (runW l).2)
  rw [show (l.foldl stepW ([], [])) = runW l from rfl] at h
  rw [h]
  have := scan_stuff (runW l).2 []
  rw [List.append_nil] at this
  rw [this]
  simp [scan]
end Go.Proofs.Ytialkpfjllhfkaa
