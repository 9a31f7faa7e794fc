/-
  What bytes.TrimRight (at a nought) and frame.nameOf answer at this program.
-/
import Derived.Test.YtnjbjgjhomfndaaDoorFrName
import Derived.Test.YtnjbjgjhomfndaaDoorKit
namespace Go.Proofs.YtnjbjgjhomfndaaDoor
open Go.RowKit

theorem mem_trimR {l : List Int} {z : Int} (h : z ∈ trimR l) : z ∈ l := by
  unfold trimR at h
  have h1 := List.mem_reverse.1 h
  exact List.mem_reverse.1 ((List.dropWhile_sublist _).subset h1)
theorem trimR_le (l : List Int) : (trimR l).length ≤ l.length := by
  unfold trimR
  rw [List.length_reverse]
  have := (List.dropWhile_sublist (fun z : Int => z == 0) (l := l.reverse)).length_le
  simpa using this

/-- A slice of bytes, cut at its end. -/
theorem upto_some (b off n cap m : Nat) (hm : m ≤ n) (hn : n ≤ cap) (w : World) :
    (Instr.slice 28 (.slice (some ⟨b, off, none⟩) n cap) none (some (.int .i64 (m : Int))) none).run Tryd.prog w = .ok (.slice (some ⟨b, off, none⟩) m cap) w := by
  rw [run_slice_h w 28 _ n cap (by rw [Tryd.underlying28]; kernel_rfl) .i64 (m : Int) (by omega) (by omega)]
  have e : (sizeOf (Tryd.prog.elem 28)).run Tryd.prog w = .ok 1 w := by kernel_rfl
  rw [e]
  simp [Result.andThen, sliced, Addr.add]
/-- Bytes as a string. -/
theorem conv_any {w : World} {v : Value} {l : List Int} (hv : Bytes w v l) : (convert 28 9 v).run Tryd.prog w = .ok (.string (strOfNums l)) w := by
  rcases Nat.eq_zero_or_pos l.length with h0 | h0
  · obtain rfl : l = [] := List.length_eq_zero_iff.1 h0
    obtain ⟨a, cap, rfl, _⟩ := hv.empty
    rw [run_convert_bytes_string w 28 9 5 _ 0 cap Tryd.underlying28 Tryd.underlying5 Tryd.underlying9]
    cases a with
    | none => simp [Conv.bytesToString]; rfl
    | some a =>
      rw [run_bytesToString w a 0 cap [] (run_loadCells_list (P := Tryd.prog) w a [] (by simp))]
      rfl
  · obtain ⟨b, off, cap, rfl, h1, h2, hc⟩ := hv.lies h0
    exact run_convert_bytes_arg w 28 5 Tryd.underlying28 Tryd.underlying5 b off l.length cap l rfl hc 9 Tryd.underlying9

/-- What holds at the head of a round of trimRightByte. -/
def Trimming (l : List Int) (b off cap : Nat) (v : Value) : Prop := ∃ k : Nat, k ≤ l.length ∧ v = .slice (some ⟨b, off, none⟩) k cap ∧ trimR (l.take k) = trimR l
set_option maxHeartbeats 400000 in
theorem trimByte_some (l : List Int) (b off cap : Nat) (w : World) (hcap : l.length ≤ cap) (hmax : cap ≤ 9223372036854775807)
    (hc : ∀ i, i < l.length → w.cell? ⟨b, off + i, none⟩ = some (.int .u8 (l.getD i 0))) :
    Calls Tryd.prog 50 #[.slice (some ⟨b, off, none⟩) l.length cap, .int .u8 0] w fun e w' => e = .returned (.slice (some ⟨b, off, none⟩) (trimR l).length cap) ∧ trimR l = l.take (trimR l).length ∧ w' = w := by
  have HC := hide hc
  clear hc
  go_enter Tryd.func50, Tryd.ntmps50
  go_wp2
  go_loop [0] (fun v => Trimming l b off cap v) (fun v => match v with | .slice _ n _ => n | _ => 0)
  case atStart => exact ⟨l.length, Nat.le_refl _, rfl, by rw [List.take_length]⟩
  case round =>
    obtain ⟨k, hk, rfl, htr⟩ := hrel
    rcases Nat.eq_zero_or_pos k with rfl | hpos
    · have HT : Hid (trimR l = []) := hide (by rw [← htr, List.take_zero]; rfl)
      clear htr
      go_wp2
      go_ret
      exact ⟨by rw [HT.out]; rfl, by rw [HT.out]; simp, rfl⟩
    · obtain ⟨m, rfl⟩ : ∃ m, k = m + 1 := ⟨k - 1, by omega⟩
      have hm : m < l.length := by omega
      have hcell := HC.out m hm
      have hsp : l.take (m + 1) = l.take m ++ [l.getD m 0] := by
        rw [List.take_succ_eq_append_getElem hm]
        simp [List.getD, hm]
      have hwr : IntKind.i64.wrap (((m + 1 : Nat) : Int) - 1) = (m : Int) := by
        simp [IntKind.wrap, IntKind.bits, IntKind.signed]
        omega
      rw [hsp] at htr
      generalize hz : l.getD m 0 = z at *
      by_cases h0 : z = 0
      · subst h0
        have HN : Hid (trimR (l.take m) = trimR l) := hide (by rw [← htr, trimR_zero])
        clear htr hsp hz
        go_wp2
        exact ⟨⟨m, by omega, rfl, HN.out⟩, Nat.lt_succ_self m⟩
      · have HT : Hid (trimR l = l.take (m + 1)) := hide (by rw [← htr, trimR_other _ _ h0, hsp])
        have h0' : (z == 0) = false := by simpa using h0
        clear htr hsp hz
        go_wp2
        go_ret
        have hlen : (trimR l).length = m + 1 := by rw [HT.out]; simp; omega
        exact ⟨by rw [hlen]; rfl, by rw [hlen]; exact HT.out, rfl⟩

set_option maxRecDepth 100000 in
set_option maxHeartbeats 400000 in
/-- bytes.TrimRight, at a nought. -/
theorem trim_any (l : List Int) (v : Value) (w : World) (hv : Bytes w v l) :
    Calls Tryd.prog 40 #[v, .string ⟨#[0]⟩] w fun e w' => ∃ v', e = .returned v' ∧ (∀ w0, Bytes w0 v l → Bytes w0 v' (trimR l)) ∧ w' = w := by
  rcases Nat.eq_zero_or_pos l.length with h0 | h0
  · obtain rfl : l = [] := List.length_eq_zero_iff.1 h0
    obtain ⟨a, cap, rfl, _⟩ := hv.empty
    clear hv
    go_enter Tryd.func40, Tryd.ntmps40
    go_wp2
    go_ret
    exact ⟨_, rfl, fun _ h => h, rfl⟩
  · obtain ⟨b, off, cap, rfl, h1, h2, hc⟩ := hv.lies h0
    have T := hide (trimByte_some l b off cap w h1 h2 hc)
    have HL := hide (trimR_le l)
    have h0' : ((l.length : Int) == 0) = false := beq_eq_false_iff_ne.2 (by omega)
    clear hv hc
    go_enter Tryd.func40, Tryd.ntmps40
    go_wp2_with fail
    refine T.out.mono ?_
    rintro e w' ⟨rfl, htk, rfl⟩
    have HK := hide htk
    clear htk
    go_wp2
    go_ret
    refine ⟨_, rfl, fun w0 h => ?_, rfl⟩
    have := h.take (trimR l).length HL.out
    rwa [← HK.out] at this

set_option maxRecDepth 100000 in
set_option maxHeartbeats 400000 in
/-- frame.nameOf. -/
theorem nameOf_any (t : List Int) (v : Value) (w : World) (hv : Bytes w v t) (hb : ∀ z ∈ t, Byte z) (hl : t.length ≤ 1000000) :
    Calls Tryd.prog 31 #[v] w fun e w' => e = .returned (.string (strOfNums (nameL t))) ∧ w' = w := by
  have T := hide (trim_any t v w hv)
  have hst : strL (strOfNums (trimR t)) = trimR t := strL_str _ fun z hz => hb z (mem_trimR hz)
  have N := hide (named_any (strOfNums (trimR t)) w (by have := trimR_le t; rw [strOfNums_size]; omega))
  rw [hst] at N
  have HV := hide hv
  obtain ⟨a, cap, rfl, hc1, hc2⟩ := hv.form
  unfold nameL
  cases hn : namedL (trimR t) with
  | false =>
    rw [hn] at N
    rw [if_neg (by decide)]
    clear hv hst hn hb
    go_enter Tryd.func31, Tryd.ntmps31
    go_wp2_with fail
    refine T.out.mono ?_
    rintro e w' ⟨v', rfl, hall, rfl⟩
    have hconv := conv_any (hall _ HV.out)
    obtain ⟨a', cap', rfl, _⟩ := (hall _ HV.out).form
    clear hall
    obtain ⟨S, hS⟩ : ∃ S, S = strOfNums (trimR t) := ⟨_, rfl⟩
    rw [← hS] at hconv N
    have HS := hide hS
    clear hS
    go_wp2_with fail
    refine N.out.mono ?_
    rintro e w' ⟨rfl, rfl⟩
    go_wp2
    go_ret
    exact ⟨rfl, rfl⟩
  | true =>
    rw [hn] at N
    rw [if_pos rfl]
    clear hv hst hn hb
    go_enter Tryd.func31, Tryd.ntmps31
    go_wp2_with fail
    refine T.out.mono ?_
    rintro e w' ⟨v', rfl, hall, rfl⟩
    have hconv := conv_any (hall _ HV.out)
    obtain ⟨a', cap', rfl, _⟩ := (hall _ HV.out).form
    clear hall
    obtain ⟨S, hS⟩ : ∃ S, S = strOfNums (trimR t) := ⟨_, rfl⟩
    rw [← hS] at hconv N
    have HS := hide hS
    clear hS
    go_wp2_with fail
    refine N.out.mono ?_
    rintro e w' ⟨rfl, rfl⟩
    go_wp2
    go_ret
    exact ⟨by rw [← HS.out]; rfl, rfl⟩

end Go.Proofs.YtnjbjgjhomfndaaDoor
