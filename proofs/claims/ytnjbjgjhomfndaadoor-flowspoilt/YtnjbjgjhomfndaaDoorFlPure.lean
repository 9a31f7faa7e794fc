/-
  What a row of bytes tells, frame by frame: with no word of the program's memory.
-/
import Derived.Test.YtnjbjgjhomfndaaDoorFrBack
namespace Go.Proofs.YtnjbjgjhomfndaaDoor

/-- What is told: a command and a body, or an error. -/
structure It where
  c : List Int
  b : List Int
  e : Int

/-- What is told of bytes that wait, what waits then, and is it dead. -/
inductive Runs : List Int → List It → List Int → Bool → Prop
  | short {r : List Int} : geE r = 4 → Runs r [] r false
  | dies {r : List Int} : geE r = 5 ∨ geE r = 6 → Runs r [⟨[], [], geE r⟩] [] true
  | next {r : List Int} {L : List It} {s : List Int} {d : Bool} : (geE r = 0 ∨ geE r = 7 ∨ geE r = 8) → Runs (r.drop (geN r).toNat) L s d → Runs r (⟨geC r, geB r, geE r⟩ :: L) s d

theorem hdE_cases {b : List Int} (h : b.length = 24) : hdE b = 0 ∨ hdE b = 5 ∨ hdE b = 6 := by
  unfold hdE
  rw [if_pos h]
  split <;> (try split) <;> simp
theorem hdN_upto (t : List Int) : hdN t ≤ 2048 := by
  unfold hdN
  split
  · rename_i h
    unfold hdE at h
    split at h
    · split at h
      · split at h
        · assumption
        · simp at h
      · simp at h
    · simp at h
  · omega
theorem geE_short {r : List Int} (h : r.length < 24) : geE r = 4 := by unfold geE; rw [if_pos h]
theorem geE_bad {r : List Int} (h : ¬ r.length < 24) (hh : ¬ hdE (r.take 24) = 0) : geE r = hdE (r.take 24) := by unfold geE; rw [if_neg h, if_neg hh]
theorem geE_cut {r : List Int} (h : ¬ r.length < 24) (hh : hdE (r.take 24) = 0) (hc : (r.length : Int) < 24 + hdN (r.take 24)) : geE r = 4 := by unfold geE; rw [if_neg h, if_pos hh, if_pos hc]
theorem geE_full {r : List Int} (h : ¬ r.length < 24) (hh : hdE (r.take 24) = 0) (hc : ¬ (r.length : Int) < 24 + hdN (r.take 24)) : geE r = 0 ∨ geE r = 7 ∨ geE r = 8 := by
  unfold geE
  rw [if_neg h, if_pos hh, if_neg hc]
  split
  · simp
  · split <;> simp
/-- The ways that bytes are. -/
theorem ge_ways (r : List Int) : (geE r = 4 ∧ r.length < 24) ∨ (geE r = 4 ∧ ¬ r.length < 24 ∧ hdE (r.take 24) = 0 ∧ (r.length : Int) < 24 + hdN (r.take 24)) ∨
    ((geE r = 5 ∨ geE r = 6) ∧ ¬ r.length < 24 ∧ ¬ hdE (r.take 24) = 0 ∧ geE r = hdE (r.take 24)) ∨
    ((geE r = 0 ∨ geE r = 7 ∨ geE r = 8) ∧ ¬ r.length < 24 ∧ hdE (r.take 24) = 0 ∧ ¬ (r.length : Int) < 24 + hdN (r.take 24)) := by
  by_cases h : r.length < 24
  · exact Or.inl ⟨geE_short h, h⟩
  · by_cases hh : hdE (r.take 24) = 0
    · by_cases hc : (r.length : Int) < 24 + hdN (r.take 24)
      · exact Or.inr (Or.inl ⟨geE_cut h hh hc, h, hh, hc⟩)
      · exact Or.inr (Or.inr (Or.inr ⟨geE_full h hh hc, h, hh, hc⟩))
    · have := hdE_cases (b := r.take 24) (by simp; omega)
      have e := geE_bad h hh
      exact Or.inr (Or.inr (Or.inl ⟨by omega, h, hh, e⟩))
theorem geN_is {r : List Int} (h : geE r = 0 ∨ geE r = 7 ∨ geE r = 8) : geN r = 24 + hdN (r.take 24) := by unfold geN; rw [if_pos h]
theorem hdN_none {b : List Int} (h : ¬ hdE b = 0) : hdN b = 0 := by unfold hdN; rw [if_neg h]
theorem geN_upto {r : List Int} (hb : ∀ z ∈ r, Byte z) (h : geE r = 0 ∨ geE r = 7 ∨ geE r = 8) : 24 ≤ geN r ∧ geN r ≤ r.length ∧ geN r ≤ 2072 := by
  rw [geN_is h]
  have h2 := hdN_upto (r.take 24)
  rcases ge_ways r with ⟨h', -⟩ | ⟨h', -⟩ | ⟨h', -⟩ | ⟨-, -, hh, hc⟩
  · omega
  · omega
  · omega
  · have h1 : 0 ≤ hdN (r.take 24) := by
      unfold hdN
      rw [if_pos hh]
      exact num_nonneg _ (fun z hz => hb z (List.mem_of_mem_take (List.mem_of_mem_drop (List.mem_of_mem_take hz))))
    omega
theorem take24 {x : List Int} (h : ¬ x.length < 24) (y : List Int) : (x ++ y).take 24 = x.take 24 := by rw [List.take_append_of_le_length (by omega)]
/-- What is read of bytes that are enough is read with whatever behind them. -/
theorem ge_more {x : List Int} (hb : ∀ z ∈ x, Byte z) (h : ¬ geE x = 4) (y : List Int) : geE (x ++ y) = geE x ∧ geC (x ++ y) = geC x ∧ geB (x ++ y) = geB x ∧ geN (x ++ y) = geN x := by
  have key : geE (x ++ y) = geE x ∧ ((geE x = 0 ∨ geE x = 7 ∨ geE x = 8) → bodyL (x ++ y) = bodyL x) ∧ (x ++ y).take 24 = x.take 24 := by
    rcases ge_ways x with ⟨h', -⟩ | ⟨h', -⟩ | ⟨h', h24, hh, e⟩ | ⟨h', h24, hh, hc⟩
    · exact absurd h' h
    · exact absurd h' h
    · refine ⟨?_, fun q => by omega, take24 h24 y⟩
      rw [e, geE_bad (by rw [List.length_append]; omega) (by rw [take24 h24]; exact hh), take24 h24]
    · have hn := geN_upto hb h'
      rw [geN_is h'] at hn
      have hbo : bodyL (x ++ y) = bodyL x := by
        unfold bodyL
        rw [take24 h24, List.drop_append_of_le_length (by omega), List.take_append_of_le_length (by rw [List.length_drop]; omega)]
      refine ⟨?_, fun _ => hbo, take24 h24 y⟩
      unfold geE
      rw [take24 h24, hbo, if_neg h24, if_pos hh, if_neg hc, if_neg (by rw [List.length_append]; omega), if_pos hh, if_neg (by rw [List.length_append]; omega)]
  obtain ⟨k1, k2, k3⟩ := key
  refine ⟨k1, ?_, ?_, ?_⟩
  · unfold geC
    rw [k1, k3]
  · unfold geB
    rw [k1]
    split
    · exact k2 (by omega)
    · rfl
  · unfold geN
    rw [k1, k3]
theorem Runs.byte {x : List Int} {L : List It} {s : List Int} {d : Bool} (h : Runs x L s d) (hb : ∀ z ∈ x, Byte z) : ∀ z ∈ s, Byte z := by
  induction h with
  | short _ => exact hb
  | dies _ => intro z hz; cases hz
  | next _ _ ih => exact ih (fun z hz => hb z (List.mem_of_mem_drop hz))
/-- Something is told of all bytes. -/
theorem runs_some : ∀ (n : Nat) (r : List Int), r.length ≤ n → (∀ z ∈ r, Byte z) → ∃ L s d, Runs r L s d
  | n, r, hn, hb => by
    rcases ge_ways r with ⟨h, -⟩ | ⟨h, -⟩ | ⟨h, -⟩ | ⟨h, -⟩
    · exact ⟨_, _, _, .short h⟩
    · exact ⟨_, _, _, .short h⟩
    · exact ⟨_, _, _, .dies h⟩
    · have h3 := geN_upto hb h
      cases n with
      | zero => omega
      | succ n =>
        obtain ⟨L, s, d, hR⟩ := runs_some n (r.drop (geN r).toNat) (by rw [List.length_drop]; omega) (fun z hz => hb z (List.mem_of_mem_drop hz))
        exact ⟨_, _, _, .next h hR⟩
theorem runs_any (r : List Int) (hb : ∀ z ∈ r, Byte z) : ∃ L s d, Runs r L s d := runs_some r.length r (Nat.le_refl _) hb
/-- Just one thing is told. -/
theorem Runs.one {x : List Int} {L L' : List It} {s s' : List Int} {d d' : Bool} (h : Runs x L s d) (k : Runs x L' s' d') : L = L' ∧ s = s' ∧ d = d' := by
  induction h generalizing L' s' d' with
  | short h =>
    cases k with
    | short _ => exact ⟨rfl, rfl, rfl⟩
    | dies k => omega
    | next k _ => omega
  | dies h =>
    cases k with
    | short _ => omega
    | dies k => exact ⟨rfl, rfl, rfl⟩
    | next k _ => omega
  | next h _ ih =>
    cases k with
    | short _ => omega
    | dies k => omega
    | next k k2 =>
      obtain ⟨h1, h2, h3⟩ := ih k2
      exact ⟨by rw [h1], h2, h3⟩
theorem Runs.wait {x : List Int} {L : List It} {s : List Int} {d : Bool} (h : Runs x L s d) : (d = false → geE s = 4) ∧ (d = true → s = []) := by
  induction h with
  | short h => exact ⟨fun _ => h, fun q => (by cases q)⟩
  | dies h => exact ⟨fun q => (by cases q), fun _ => rfl⟩
  | next _ _ ih => exact ih
theorem Runs.none {x : List Int} {s : List Int} {d : Bool} (h : Runs x [] s d) : s = x ∧ d = false := by
  cases h with
  | short h => exact ⟨rfl, rfl⟩
theorem geE4_upto {s : List Int} (h : geE s = 4) : s.length < 2072 := by
  have h2 := hdN_upto (s.take 24)
  rcases ge_ways s with ⟨-, h'⟩ | ⟨-, -, -, h'⟩ | ⟨h', -⟩ | ⟨h', -⟩ <;> omega
theorem Runs.count {x : List Int} {L : List It} {s : List Int} {d : Bool} (h : Runs x L s d) (hb : ∀ z ∈ x, Byte z) : L.length + s.length ≤ x.length := by
  induction h with
  | short h => simp
  | @dies r h =>
    rcases ge_ways r with ⟨h', -⟩ | ⟨h', -⟩ | ⟨-, h', -⟩ | ⟨h', -⟩
    · omega
    · omega
    · simp; omega
    · omega
  | @next r L s d h _ ih =>
    have h3 := geN_upto hb h
    have := ih (fun z hz => hb z (List.mem_of_mem_drop hz))
    rw [List.length_drop] at this
    simp only [List.length_cons]
    omega
/-- Bytes that come behind what waits. -/
theorem Runs.join {x : List Int} {L : List It} {s : List Int} {d : Bool} (h : Runs x L s d) (hb : ∀ z ∈ x, Byte z) (y : List Int) :
    (d = false → ∀ {L2 : List It} {s2 : List Int} {d2 : Bool}, Runs (s ++ y) L2 s2 d2 → Runs (x ++ y) (L ++ L2) s2 d2) ∧ (d = true → Runs (x ++ y) L [] true) := by
  induction h with
  | short h => exact ⟨fun _ {L2 s2 d2} k => k, fun q => (by cases q)⟩
  | @dies r h =>
    refine ⟨fun q => (by cases q), fun _ => ?_⟩
    have e := (ge_more hb (by omega) y).1
    rw [← e] at h ⊢
    exact .dies h
  | @next r L s d h _ ih =>
    have h3 := geN_upto hb h
    obtain ⟨e1, e2, e3, e4⟩ := ge_more hb (by omega) y
    have hd : (r ++ y).drop (geN (r ++ y)).toNat = r.drop (geN r).toNat ++ y := by rw [e4, List.drop_append_of_le_length (by omega)]
    have hb' : ∀ z ∈ r.drop (geN r).toNat, Byte z := fun z hz => hb z (List.mem_of_mem_drop hz)
    refine ⟨fun q {L2 s2 d2} k => ?_, fun q => ?_⟩
    · have := (ih hb').1 q k
      rw [← hd] at this
      rw [← e1] at h
      have := Runs.next h this
      rwa [e1, e2, e3] at this
    · have := (ih hb').2 q
      rw [← hd] at this
      rw [← e1] at h
      have := Runs.next h this
      rwa [e1, e2, e3] at this

/-- What is told of a flow that has r, and is dead or not, when b comes. -/
def FRuns (d : Bool) (r b : List Int) (L : List It) (s : List Int) (d' : Bool) : Prop := (d = false ∧ Runs (r ++ b) L s d') ∨ (d = true ∧ r = [] ∧ L = [] ∧ s = [] ∧ d' = true)
theorem fruns_any (d : Bool) (r b : List Int) (hr : ∀ z ∈ r, Byte z) (hb : ∀ z ∈ b, Byte z) (hd : d = true → r = []) : ∃ L s d', FRuns d r b L s d' := by
  cases d with
  | false =>
    obtain ⟨L, s, d', h⟩ := runs_any (r ++ b) (fun z hz => by rcases List.mem_append.1 hz with h | h; exact hr z h; exact hb z h)
    exact ⟨L, s, d', Or.inl ⟨rfl, h⟩⟩
  | true => exact ⟨[], [], true, Or.inr ⟨rfl, hd rfl, rfl, rfl, rfl⟩⟩
theorem FRuns.byte {d d' : Bool} {r b s : List Int} {L : List It} (h : FRuns d r b L s d') (hr : ∀ z ∈ r, Byte z) (hb : ∀ z ∈ b, Byte z) : ∀ z ∈ s, Byte z := by
  rcases h with ⟨-, h⟩ | ⟨-, -, -, rfl, -⟩
  · exact h.byte (fun z hz => by rcases List.mem_append.1 hz with h | h; exact hr z h; exact hb z h)
  · intro z hz; cases hz
theorem FRuns.wait {d d' : Bool} {r b s : List Int} {L : List It} (h : FRuns d r b L s d') : (d' = false → geE s = 4) ∧ (d' = true → s = []) := by
  rcases h with ⟨-, h⟩ | ⟨-, -, -, rfl, rfl⟩
  · exact h.wait
  · exact ⟨fun q => (by cases q), fun _ => rfl⟩
theorem FRuns.count {d d' : Bool} {r b s : List Int} {L : List It} (h : FRuns d r b L s d') (hr : ∀ z ∈ r, Byte z) (hb : ∀ z ∈ b, Byte z) : L.length + s.length ≤ r.length + b.length := by
  rcases h with ⟨-, h⟩ | ⟨-, -, rfl, rfl, -⟩
  · have := h.count (fun z hz => by rcases List.mem_append.1 hz with h | h; exact hr z h; exact hb z h)
    rwa [List.length_append] at this
  · simp
/-- Pieces, one behind the other. -/
theorem FRuns.join {x y L s : List Int} {D D2 : List It} {d d2 : Bool} (h : Runs x D L d) (hb : ∀ z ∈ x, Byte z) (k : FRuns d L y D2 s d2) : Runs (x ++ y) (D ++ D2) s d2 := by
  rcases k with ⟨rfl, k⟩ | ⟨rfl, rfl, rfl, rfl, rfl⟩
  · exact (h.join hb y).1 rfl k
  · rw [List.append_nil]
    exact (h.join hb y).2 rfl

/-- How many bytes the head, or behind it the body, still lacks. -/
def room (r : List Int) : Nat := if r.length < 24 then 24 - r.length else (24 + (hdN (r.take 24)).toNat) - r.length
theorem room_pos {r : List Int} (h : geE r = 4) : 0 < room r := by
  unfold room
  split
  · omega
  · rcases ge_ways r with ⟨-, h'⟩ | ⟨-, -, -, h'⟩ | ⟨h', -⟩ | ⟨h', -⟩ <;> omega
/-- So many bytes have come that they are enough: they are just that. -/
theorem feed_full {r b : List Int} (h : geE r = 4) (hr : ∀ z ∈ r, Byte z) (hb : ∀ z ∈ b, Byte z) (hf : geE (r ++ b.take (min (room r) b.length)) = 0 ∨ geE (r ++ b.take (min (room r) b.length)) = 7 ∨ geE (r ++ b.take (min (room r) b.length)) = 8) :
    geN (r ++ b.take (min (room r) b.length)) = ((r ++ b.take (min (room r) b.length)).length : Nat) := by
  have hlen : (r ++ b.take (min (room r) b.length)).length = r.length + min (room r) b.length := by rw [List.length_append, List.length_take]; omega
  have hb1 : ∀ z ∈ r ++ b.take (min (room r) b.length), Byte z := fun z hz => by
    rcases List.mem_append.1 hz with h | h
    · exact hr z h
    · exact hb z (List.mem_of_mem_take h)
  have hu := geN_upto hb1 hf
  have hN := geN_is hf
  rw [hlen]
  by_cases h24 : r.length < 24
  · have hro : room r = 24 - r.length := by unfold room; rw [if_pos h24]
    omega
  · have hro : room r = 24 + (hdN (r.take 24)).toNat - r.length := by unfold room; rw [if_neg h24]
    rw [take24 h24] at hN
    have hp := room_pos h
    omega
/-- A round of Feed. -/
theorem feed_step {r b : List Int} (h : geE r = 4) (hr : ∀ z ∈ r, Byte z) (hb : ∀ z ∈ b, Byte z) {r1 : List Int} (h1 : r1 = r ++ b.take (min (room r) b.length)) {L : List It} {s : List Int} {d : Bool} (hR : Runs (r ++ b) L s d) :
    (geE r1 = 4 ∧ Runs (r1 ++ b.drop (min (room r) b.length)) L s d) ∨ ((geE r1 = 5 ∨ geE r1 = 6) ∧ geC r1 = [] ∧ geB r1 = [] ∧ L = [⟨geC r1, geB r1, geE r1⟩] ∧ s = [] ∧ d = true) ∨
      ((geE r1 = 0 ∨ geE r1 = 7 ∨ geE r1 = 8) ∧ geN r1 = (r1.length : Nat) ∧ ∃ L1, L = ⟨geC r1, geB r1, geE r1⟩ :: L1 ∧ Runs ([] ++ b.drop (min (room r) b.length)) L1 s d) := by
  have e : r1 ++ b.drop (min (room r) b.length) = r ++ b := by rw [h1, List.append_assoc, List.take_append_drop]
  have hb1 : ∀ z ∈ r1, Byte z := fun z hz => by
    rw [h1] at hz
    rcases List.mem_append.1 hz with h | h
    · exact hr z h
    · exact hb z (List.mem_of_mem_take h)
  rw [← e] at hR
  rcases ge_ways r1 with ⟨h', -⟩ | ⟨h', -⟩ | ⟨h', -⟩ | ⟨h', -⟩
  · exact Or.inl ⟨h', hR⟩
  · exact Or.inl ⟨h', hR⟩
  · obtain ⟨e1, -⟩ := ge_more hb1 (by omega) (b.drop (min (room r) b.length))
    obtain ⟨c1, c2, -⟩ := get_none (b := r1) (by omega)
    refine Or.inr (Or.inl ⟨h', c1, c2, ?_⟩)
    have := Runs.one hR (.dies (by rw [e1]; exact h'))
    rw [e1] at this
    rw [c1, c2]
    exact this
  · obtain ⟨e1, e2, e3, e4⟩ := ge_more hb1 (by omega) (b.drop (min (room r) b.length))
    have hN : geN r1 = (r1.length : Nat) := by
      rw [h1] at h' ⊢
      exact feed_full h hr hb h'
    refine Or.inr (Or.inr ⟨h', hN, ?_⟩)
    cases hR with
    | short q => omega
    | dies q => omega
    | next q hR2 =>
      refine ⟨_, by rw [e1, e2, e3], ?_⟩
      rw [e4, hN] at hR2
      simpa using hR2

end Go.Proofs.YtnjbjgjhomfndaaDoor
