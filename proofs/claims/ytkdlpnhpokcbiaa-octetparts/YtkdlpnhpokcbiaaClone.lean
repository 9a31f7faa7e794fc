/-
  What bytes.Clone and octet.first answer at this program; a list of parts of the call's own, that grows.
-/
import Derived.Test.YtkdlpnhpokcbiaaParts
import Derived.Test.YtkdlpnhpokcbiaaOctRead
import Derived.Lib.LazyBuf
import Derived.Deep.QuietTactic
namespace Go.Proofs.Ytkdlpnhpokcbiaa
open Go.RowKit

theorem Own.low {w : World} {base base' : Nat} {v : Value} {l : List Int} (h : Own w base v l) (hb : base' ≤ base) : Own w base' v l := by
  obtain ⟨h1, h2⟩ := h
  refine ⟨h1, ?_⟩
  rcases h2 with h2 | ⟨g, cap, cur, hv, hg, r⟩
  · exact Or.inl h2
  · exact Or.inr ⟨g, cap, cur, hv, by omega, r⟩

theorem clone_any (l : List Int) (v : Value) (w : World) (hv : Bytes w v l) (hn : l.length ≤ 900000) :
    Calls Try.prog 33 #[v] w fun e w' => ∃ v', e = .returned v' ∧ Own w' w.heap.size v' l ∧ Below w.heap.size w w' := by
  have HV := hide hv
  obtain ⟨a, cap, rfl, hcap, hmax, hnone, _⟩ := hv
  have hnil := fun w => Lib.run_eql_slice_nil (P := Try.prog) w 23 5 a l.length cap 0 0 Try.underlying23
  cases a with
  | none =>
    obtain rfl := hnone rfl
    obtain rfl : l = [] := List.length_eq_zero_iff.1 (by omega)
    simp only [Option.isNone_none, List.length_nil] at hnil ⊢
    clear hcap hmax hnone
    go_enter Try.func33, Try.ntmps33
    go_wp2
    go_ret
    exact ⟨_, rfl, Own.nil _ _, Below.refl _ _⟩
  | some a =>
    simp only [Option.isNone_some] at hnil
    clear hnone
    go_enter Try.func33, Try.ntmps33
    go_wp2_with (at_builtin; refine wp_append rfl _ _ rfl w.heap.size _ [] rfl (Own.made _ _ (Nat.le_refl _)) _ l rfl (HV.out.alloc _) ?c1 ?c2 ?_)
    case c1 => first | omega | (simp; omega)
    case c2 => simp
    intro v' w' hown hbel
    have R : Hid (Own w' w.heap.size v' l ∧ Below w.heap.size w w') := ⟨hown, ((Below.refl _ _).alloc (Nat.le_refl _) _).trans hbel⟩
    clear hown hbel
    go_wp2
    go_ret
    exact ⟨_, rfl, R.out⟩

/-- What octet.first comes to. -/
def FirstDone (w : World) (v : Value) (l : List Int) (e : Ending) (w' : World) : Prop :=
  ∃ p r, e = .returned (.tuple #[p, r, .int .i64 (partE l)]) ∧ (partE l = 0 → ∀ w0, Bytes w0 v l → Bytes w0 p (partP l) ∧ Bytes w0 r (partR l)) ∧ ∃ n, w' = w.drewN n
theorem firstDone_bad {w : World} {v : Value} {l : List Int} {z : Int} (h : partE l = z) (hz : ¬ z = 0) (n : Nat) : FirstDone w v l (.returned (.tuple #[.slice none 0 0, .slice none 0 0, .int .i64 z])) (w.drewN n) := by
  subst h
  exact ⟨_, _, rfl, fun q => absurd q hz, n, rfl⟩

theorem firstDone_ok {w : World} {v : Value} {l : List Int} {p r : Value} (n : Nat) (h : partE l = 0) (hp : ∀ w0, Bytes w0 v l → Bytes w0 p (partP l)) (hr : ∀ w0, Bytes w0 v l → Bytes w0 r (partR l)) : FirstDone w v l (.returned (.tuple #[p, r, .int .i64 0])) (w.drewN n) :=
  ⟨p, r, by rw [h], fun _ w0 h0 => ⟨hp w0 h0, hr w0 h0⟩, n, rfl⟩

set_option maxHeartbeats 400000 in
theorem first_any (l : List Int) (v : Value) (w : World) (hv : Bytes w v l) (hl : ∀ z ∈ l, Byte z) (hn : l.length ≤ 1000000) :
    Calls Try.prog 32 #[v] w fun e w' => FirstDone w v l e w' := by
  have R := hide (read_any l v w hv hl)
  by_cases he : readE l = 0
  · obtain ⟨n, hnn, hn1, hn2, _, hvar, hx0, hx1⟩ := read_ok l hl he
    have ha : after l = l.drop n := by unfold after; rw [hnn]; rfl
    rw [hnn, he] at R
    obtain ⟨b, off, cap, rfl, hcap, hmax, _⟩ := hv.lies (by omega)
    have HD := hide (fun (w0 : World) (h : Bytes w0 (.slice (some ⟨b, off, none⟩) l.length cap) l) => h.drop n hn2)
    have hla : (after l).length = l.length - n := by rw [ha]; simp
    have hnl : (n : Int) ≤ (l.length : Int) := by omega
    rw [← ha] at HD
    by_cases hs : ((l.length - n : Nat) : Int) < readX l
    · have D := hide (firstDone_bad (w := w) (v := .slice (some ⟨b, off, none⟩) l.length cap) (l := l) (z := 4) (by unfold partE; rw [if_pos he, hla, if_pos hs]) (by omega) 0)
      clear he hvar hnn ha hla hl hv HD
      generalize readX l = x at *
      generalize l.length = m at *
      by_cases hc : cap = n
      · subst hc
        go_enter Try.func32, Try.ntmps32
        go_wp2_with fail
        refine R.out.mono ?_
        rintro e w' ⟨rfl, rfl⟩
        go_wp2
        go_ret3
        exact D.out
      · go_enter Try.func32, Try.ntmps32
        go_wp2_with fail
        refine R.out.mono ?_
        rintro e w' ⟨rfl, rfl⟩
        go_wp2
        go_ret3
        exact D.out
    · have hpe : partE l = 0 := by unfold partE; rw [if_pos he, hla, if_neg hs]
      obtain ⟨x, hx⟩ : ∃ x : Nat, readX l = x := ⟨(readX l).toNat, by omega⟩
      have hpp : partP l = (after l).take x := by unfold partP; rw [hx]; rfl
      have hpr : partR l = (after l).drop x := by unfold partR; rw [hx]; rfl
      rw [hx] at R hs
      by_cases hc : cap = n
      · subst hc
        have hm : l.length = cap := by omega
        have hx00 : x = 0 := by omega
        rw [if_pos rfl, hm] at HD
        have B := hide (fun w0 h => (HD.out w0 h).take x (by omega))
        have B' := hide (fun w0 h => (HD.out w0 h).drop x (by omega))
        rw [← hpp] at B
        rw [← hpr] at B'
        subst hx00
        simp only [Nat.sub_self, if_pos] at B B'
        have D := hide (fun n => firstDone_ok (w := w) n hpe B.out B'.out)
        rw [hm] at R ⊢
        clear he hvar hnn ha hla hl hv HD hpp hpr hs hx hx0 hx1 hpe B B'
        go_enter Try.func32, Try.ntmps32
        go_wp2_with fail
        refine R.out.mono ?_
        rintro e w' ⟨rfl, rfl⟩
        go_wp2
        go_quiet (fail)
        go_wp2
        go_ret3
        exact D.out _
      · rw [if_neg hc] at HD
        have B := hide (fun w0 h => (HD.out w0 h).take x (by omega))
        have B' := hide (fun w0 h => (HD.out w0 h).drop x (by omega))
        rw [← hpp] at B
        rw [← hpr] at B'
        have hxm : x ≤ cap - n := by omega
        have hxl : x ≤ l.length - n := by omega
        have hC0 : 0 < cap - n := by omega
        have hlt : l.length - n < 18446744073709551616 := by omega
        have e1 : (Option.map (fun x => Addr.add x n) (some (⟨b, off, none⟩ : Addr))) = some ⟨b, off + n, none⟩ := by simp [Addr.add]; omega
        rw [e1] at B B'
        have D := hide (fun n => firstDone_ok (w := w) n hpe B.out B'.out)
        clear he hvar hnn ha hla hl hv HD hpp hpr hx hx0 hx1 hpe B B' hs e1
        go_enter Try.func32, Try.ntmps32
        go_wp2_with fail
        refine R.out.mono ?_
        rintro e w' ⟨rfl, rfl⟩
        go_wp2_with fail
        generalize cap - n = C at *
        generalize l.length - n = M at *
        have h1 : (x : Int) ≤ (C : Int) := by omega
        have h2 : (x : Int) ≤ (M : Int) := by omega
        have h3 : ¬ C = 0 := by omega
        by_cases hcx : C = x
        · subst hcx
          rw [if_pos rfl, Nat.sub_self] at D
          go_wp2
          go_quiet (fail)
          go_wp2
          go_ret3
          exact D.out _
        · have e2 : (Option.map (fun y => Addr.add y x) (some (⟨b, off + n, none⟩ : Addr))) = some ⟨b, off + n + x, none⟩ := by simp [Addr.add]
          rw [if_neg hcx, e2] at D
          clear e2
          go_wp2
          go_quiet (fail)
          go_wp2
          go_ret3
          exact D.out _
  · have hpe : partE l = readE l := by unfold partE; rw [if_neg he]
    have D := hide (firstDone_bad (w := w) (v := v) hpe he 0)
    obtain ⟨hb1, hb2⟩ := read_bad l he
    rw [hb1, hb2] at R
    have he' : (readE l == 0) = false := by simpa using he
    clear he hb1 hb2 hpe hv hl
    generalize readE l = re at *
    go_enter Try.func32, Try.ntmps32
    go_wp2_with fail
    refine R.out.mono ?_
    rintro e w' ⟨rfl, rfl⟩
    go_wp2
    go_ret3
    exact D.out
end Go.Proofs.Ytkdlpnhpokcbiaa
