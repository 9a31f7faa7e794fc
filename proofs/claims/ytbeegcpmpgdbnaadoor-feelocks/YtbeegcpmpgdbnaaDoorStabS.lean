/-
  What slices.stableCmpFunc and slices.SortStableFunc do at this program: the row is sorted; of equals those that came first stay first.
-/
import Derived.Test.YtbeegcpmpgdbnaaDoorStabO
import Derived.Test.YtbeegcpmpgdbnaaDoorStabX
import Derived.Test.YtbeegcpmpgdbnaaDoorInsL
namespace Go.Proofs.YtbeegcpmpgdbnaaDoor
open Go.RowKit Go.Shelf Go.Lib Go.Sort
variable {α : Type} [Inhabited α]
variable {enc : α → Value} {cf : α → α → Int} {pos : α → Nat} {g : Nat} {cb : Array Value} {d0 : Array α} {w0 : World} {blk off : Nat}

theorem ins_any (M : Merging enc cf pos g cb d0 w0 blk off) (cap a b : Nat) (d : Array α) (w : World) (hs : d.size = d0.size) (hab : a ≤ b) (hb : b ≤ d0.size) (S : SW enc w0 blk off d w) (h : ∀ k l, a ≤ k → k < l → l < b → pos d[k]! < pos d[l]!) :
    Calls Tryd.prog 59 #[.slice (some ⟨blk, off, none⟩) d0.size cap, .int .i64 a, .int .i64 b, .func (.func g) #[] cb] w fun e w' => e = .returned (.tuple #[]) ∧ ∃ d', SW enc w0 blk off d' w' ∧ From a b d d' ∧ Up (stT (ltOf cf) pos) a b d' := by
  have C := Any.insertionSortCmpFunc_s (P := Tryd.prog) (ρ := Tryd.insInt_ren) Tryd.insInt enc cf g cb blk off cap a b d0 d w0 w M.eg M.cmp M.row hs.symm S hab (by omega) (by have := M.small; omega)
  rw [hs] at C
  obtain ⟨f, u⟩ := insertion_sorts M.swo M.inj d a b hab (by omega) h
  exact C.mono fun e w' ⟨h1, h2⟩ => ⟨h1, _, h2, f, u⟩

set_option maxHeartbeats 8000000 in
set_option maxRecDepth 100000 in
theorem stable_any (M : Merging enc cf pos g cb d0 w0 blk off) (cap : Nat) (S : SW enc w0 blk off d0 w0) (asc : ∀ k l, k < l → l < d0.size → pos d0[k]! < pos d0[l]!) (hn : d0.size ≤ 1000000) :
    Calls Tryd.prog 53 #[.slice (some ⟨blk, off, none⟩) d0.size cap, .int .i64 d0.size, .func (.func g) #[] cb] w0 fun e w' => e = .returned (.tuple #[]) ∧ ∃ d', SW enc w0 blk off d' w' ∧ From 0 d0.size d0 d' ∧ Up (stT (ltOf cf) pos) 0 d0.size d' := by
  have INS : Aside _ := fun (a b : Nat) (d : Array α) (w : World) => ins_any M cap a b d w
  have MER : Aside _ := fun (a m b : Nat) (d : Array α) (w : World) => merge_any M cap (b - a + 1) a m b d w (by omega)
  have S0 : Aside (SW enc w0 blk off d0 w0) := S
  have AS : Aside _ := asc
  obtain ⟨n, hn'⟩ : ∃ n, n = d0.size := ⟨_, rfl⟩
  have NN : Aside (n = d0.size) := hn'
  rw [← hn'] at hn ⊢
  clear M S asc hn'
  go_enter Tryd.func53, Tryd.ntmps53
  go_wp2
  go_loopg [7, 8] n (fun gk va vb wr => ∃ (t : Nat) (a b : Nat) (dk : Array α), va = .int .i64 a ∧ vb = .int .i64 b ∧ b ≤ n + 20 ∧ n + 20 - b ≤ gk ∧ Aside (a = 20 * t ∧ b = 20 * (t + 1) ∧ a ≤ n) ∧ Aside (SW enc w0 blk off dk wr) ∧
    Aside (From 0 n d0 dk ∧ Fo pos 20 n dk ∧ Done (stT (ltOf cf) pos) 20 a dk ∧ ∀ i, a ≤ i → dk[i]! = d0[i]!))
  case atStart => exact ⟨0, 0, 20, d0, rfl, rfl, by omega, by omega, (⟨rfl, rfl, Nat.zero_le _⟩ : _ ∧ _ ∧ _), S0, (⟨From.refl _ _ _, fun i j hs hj => AS.out i j (sep_lt hs) (by rw [← NN.out]; exact hj), fun i j _ hj => by omega, fun _ _ => rfl⟩ : From 0 n d0 d0 ∧ Fo pos 20 n d0 ∧ Done (stT (ltOf cf) pos) 20 0 d0 ∧ ∀ i, 0 ≤ i → d0[i]! = d0[i]!)⟩
  case round =>
    clear S0
    obtain ⟨t, a, b, dk, rfl, rfl, hbn, hg, AB, S1, I⟩ := hrel
    by_cases hlt : b ≤ n
    · have hltz : (b : Int) ≤ (n : Int) := by omega
      have C := INS.out a b dk wr (I.out.1.1) (by have := AB.out; omega) (by have := NN.out; omega) S1.out (fun k l h1 h2 h3 => by
        rw [I.out.2.2.2 k h1, I.out.2.2.2 l (by omega)]
        exact AS.out k l h2 (by have := NN.out; omega))
      rw [← NN.out] at C
      obtain ⟨b2, hb2⟩ : ∃ q, q = b + 20 := ⟨_, rfl⟩
      have rb : IntKind.i64.wrap ((b : Int) + 20) = (b2 : Int) := by rw [IntKind.wrap_i64]; omega
      have B2 : Aside (b2 = b + 20) := hb2
      clear hb2
      go_wp2_with fail
      refine C.mono ?_
      clear C
      rintro e w1 ⟨rfl, d1, S2', f, u⟩
      have S2 : Aside (SW enc w0 blk off d1 w1) := S2'
      have J : Aside (From 0 n d0 d1 ∧ Fo pos 20 n d1 ∧ Done (stT (ltOf cf) pos) 20 b d1 ∧ ∀ i, b ≤ i → d1[i]! = d0[i]!) := by
        have ab := AB.out
        rw [ab.1] at f u
        have dn := I.out.2.2.1
        rw [ab.1] at dn
        exact ⟨I.out.1.trans (f.mono (Nat.zero_le _) hlt), fo_from I.out.2.1 f (by omega) hlt, done_next dn f u, fun i hi => by rw [f.2.1 i (Or.inr hi)]; exact I.out.2.2.2 i (by omega)⟩
      clear S2' f u S1
      go_wp2
      go_roundg (n + 20 - b2)
      case measure => have := B2.out; omega
      case rel => exact ⟨t + 1, b, b2, d1, rfl, rfl, by have := B2.out; omega, Nat.le_refl _, (by have := AB.out; have := B2.out; omega : b = 20 * (t + 1) ∧ b2 = 20 * (t + 1 + 1) ∧ b ≤ n), S2, J⟩
    · have hltz : ¬ (b : Int) ≤ (n : Int) := by omega
      have C := INS.out a n dk wr (I.out.1.1) (by have := AB.out; omega) (by have := NN.out; omega) S1.out (fun k l h1 h2 h3 => by
        rw [I.out.2.2.2 k h1, I.out.2.2.2 l (by omega)]
        exact AS.out k l h2 (by have := NN.out; omega))
      rw [← NN.out] at C
      go_wp2_with fail
      refine C.mono ?_
      clear C
      rintro e w1 ⟨rfl, d1, S2', f, u⟩
      have S2 : Aside (SW enc w0 blk off d1 w1) := S2'
      have J : Aside (From 0 n d0 d1 ∧ Fo pos 20 n d1 ∧ Done (stT (ltOf cf) pos) 20 n d1) := by
        have ab := AB.out
        rw [ab.1] at f u
        have dn := I.out.2.2.1
        rw [ab.1] at dn
        exact ⟨I.out.1.trans (f.mono (Nat.zero_le _) (Nat.le_refl _)), fo_from I.out.2.1 f (by omega) (Nat.le_refl _), done_next dn f u⟩
      clear S2' f u S1 I AB
      clear hlt hltz hbn hg
      go_wp2
      go_loopg [6] n (fun gk vs wr => ∃ (s : Nat) (dk : Array α), vs = .int .i64 s ∧ 20 ≤ s ∧ s ≤ 2 * n + 20 ∧ 2 * n + 20 - s ≤ 2 * gk + 20 ∧ Aside (SW enc w0 blk off dk wr) ∧ Aside (From 0 n d0 dk ∧ Fo pos s n dk ∧ Done (stT (ltOf cf) pos) s n dk))
      case atStart => exact ⟨20, d1, rfl, Nat.le_refl _, by omega, by omega, S2, J⟩
      case round =>
        clear S2 J
        obtain ⟨s, dk, rfl, hs1, hs2, hg, S1, J⟩ := hrel
        by_cases hlt : s < n
        · have hltz : (s : Int) < (n : Int) := by omega
          obtain ⟨s2, hs2'⟩ : ∃ q, q = 2 * s := ⟨_, rfl⟩
          have rs : IntKind.i64.wrap (2 * (s : Int)) = (s2 : Int) := by rw [IntKind.wrap_i64]; omega
          have rs' : IntKind.i64.wrap ((s : Int) * 2) = (s2 : Int) := by rw [IntKind.wrap_i64]; omega
          have SS : Aside (s2 = 2 * s) := hs2'
          clear hs2'
          go_wp2
          go_loopg [7, 8] n (fun g3 va vb wr => ∃ (t a b : Nat) (d2 : Array α), va = .int .i64 a ∧ vb = .int .i64 b ∧ b ≤ n + s2 ∧ n + s2 - b ≤ g3 ∧ Aside (a = s2 * t ∧ b = s2 * (t + 1) ∧ a ≤ n) ∧ Aside (SW enc w0 blk off d2 wr) ∧
            Aside (From 0 n d0 d2 ∧ Fo pos s2 n d2 ∧ Done (stT (ltOf cf) pos) s2 a d2 ∧ ∀ i, a ≤ i → d2[i]! = dk[i]!))
          case atStart => exact ⟨0, 0, s2, dk, rfl, rfl, by omega, by omega, (by omega : 0 = s2 * 0 ∧ s2 = s2 * (0 + 1) ∧ 0 ≤ n), S1, (⟨J.out.1, by rw [SS.out]; exact fo_double J.out.2.1, fun i j _ hj => by omega, fun _ _ => rfl⟩ : From 0 n d0 dk ∧ Fo pos s2 n dk ∧ Done (stT (ltOf cf) pos) s2 0 dk ∧ ∀ i, 0 ≤ i → dk[i]! = dk[i]!)⟩
          case round =>
            clear S1
            obtain ⟨t, a, b, d2, rfl, rfl, hbn, hg3, AB, S1, I⟩ := hrel
            obtain ⟨m, hm⟩ : ∃ q, q = a + s := ⟨_, rfl⟩
            have hms : m ≤ a + s := by omega
            have hnn : n ≤ 1000000 := hn
            have ABX : Aside (a = s * (2 * t) ∧ m = s * (2 * t + 1) ∧ b = s * (2 * t + 2) ∧ a + 2 * s = b ∧ m = a + s) := by
              have ab := AB.out
              have ss := SS.out
              have e1 : s2 * t = s * (2 * t) := by rw [ss, Nat.mul_comm 2 s, Nat.mul_assoc]
              have e2 : s2 * (t + 1) = s * (2 * t + 2) := by rw [ss, Nat.mul_comm 2 s, Nat.mul_assoc, Nat.mul_add]
              have e3 : s * (2 * t + 1) = s * (2 * t) + s := by rw [Nat.mul_add, Nat.mul_one]
              have e4 : s * (2 * t + 2) = s * (2 * t) + s * 2 := by rw [Nat.mul_add]
              exact (by omega : a = s * (2 * t) ∧ m = s * (2 * t + 1) ∧ b = s * (2 * t + 2) ∧ a + 2 * s = b ∧ m = a + s)
            have rm : IntKind.i64.wrap ((a : Int) + (s : Int)) = (m : Int) := by have := AB.out; rw [IntKind.wrap_i64]; omega
            clear hm
            by_cases hlt2 : b ≤ n
            · have hltz2 : (b : Int) ≤ (n : Int) := by omega
              obtain ⟨b2, hb2⟩ : ∃ q, q = b + s2 := ⟨_, rfl⟩
              have rb : IntKind.i64.wrap ((b : Int) + (s2 : Int)) = (b2 : Int) := by have := SS.out; rw [IntKind.wrap_i64]; omega
              have B2 : Aside (b2 = b + s2) := hb2
              clear hb2
              have C := MER.out a m b d2 wr (by have := ABX.out; omega) (by have := ABX.out; omega) (by have := NN.out; omega) I.out.1.1 S1.out
              have Q := merge_asks (b := b) (t := t) J.out.2.1 J.out.2.2 hlt2 (by have := ABX.out; omega) (by have := ABX.out; omega)
              rw [← ABX.out.1, ← ABX.out.2.1] at Q
              have C := C (Q.1.same (fun i h _ => I.out.2.2.2 i h)) (Q.2.1.same (fun i h _ => I.out.2.2.2 i (by have := ABX.out; omega))) (Q.2.2.same (fun i h _ => I.out.2.2.2 i h))
              unfold Merges at C
              rw [← NN.out] at C
              clear Q
              go_wp2_with fail
              refine C.mono ?_
              clear C
              rintro e w3 ⟨rfl, d3, S3', f, u⟩
              have S3 : Aside (SW enc w0 blk off d3 w3) := S3'
              have K : Aside (From 0 n d0 d3 ∧ Fo pos s2 n d3 ∧ Done (stT (ltOf cf) pos) s2 b d3 ∧ ∀ i, b ≤ i → d3[i]! = dk[i]!) := by
                have ab := AB.out
                rw [ab.1] at f u
                have dn := I.out.2.2.1
                rw [ab.1] at dn
                exact ⟨I.out.1.trans (f.mono (Nat.zero_le _) hlt2), fo_from I.out.2.1 f (by omega) hlt2, done_next dn f u, fun i hi => by rw [f.2.1 i (Or.inr hi)]; exact I.out.2.2.2 i (by have := ABX.out; omega)⟩
              clear S3' f u S1
              go_wp2
              go_roundg (n + s2 - b2)
              case measure => have := B2.out; have := SS.out; omega
              case rel => exact ⟨t + 1, b, b2, d3, rfl, rfl, by have := B2.out; omega, Nat.le_refl _, (by have := AB.out; have := B2.out; have e : s2 * (t + 1 + 1) = s2 * (t + 1) + s2 := Nat.mul_succ _ _; omega : b = s2 * (t + 1) ∧ b2 = s2 * (t + 1 + 1) ∧ b ≤ n), S3, K⟩
            · have hltz2 : ¬ (b : Int) ≤ (n : Int) := by omega
              by_cases hlm : m < n
              · have hlmz : (m : Int) < (n : Int) := by omega
                have C := MER.out a m n d2 wr (by have := ABX.out; omega) hlm (by have := NN.out; omega) I.out.1.1 S1.out
                have Q := merge_asks (b := n) (t := t) J.out.2.1 J.out.2.2 (Nat.le_refl _) (by have := ABX.out; omega) (by have := ABX.out; omega)
                rw [← ABX.out.1, ← ABX.out.2.1] at Q
                have C := C (Q.1.same (fun i h _ => I.out.2.2.2 i h)) (Q.2.1.same (fun i h _ => I.out.2.2.2 i (by have := ABX.out; omega))) (Q.2.2.same (fun i h _ => I.out.2.2.2 i h))
                unfold Merges at C
                rw [← NN.out] at C
                clear Q
                go_wp2_with fail
                refine C.mono ?_
                clear C
                rintro e w3 ⟨rfl, d3, S3', f, u⟩
                have S3 : Aside (SW enc w0 blk off d3 w3) := S3'
                have K : Aside (From 0 n d0 d3 ∧ Fo pos s2 n d3 ∧ Done (stT (ltOf cf) pos) s2 n d3) := by
                  have ab := AB.out
                  rw [ab.1] at f u
                  have dn := I.out.2.2.1
                  rw [ab.1] at dn
                  exact ⟨I.out.1.trans (f.mono (Nat.zero_le _) (Nat.le_refl _)), fo_from I.out.2.1 f (by omega) (Nat.le_refl _), done_next dn f u⟩
                clear S3' f u S1
                go_wp2
                go_roundg (n - s)
                case measure => omega
                case rel => exact ⟨s2, d3, rfl, by have := SS.out; omega, by have := SS.out; omega, by have := SS.out; omega, S3, K⟩
              · have hlmz : ¬ (m : Int) < (n : Int) := by omega
                have K : Aside (From 0 n d0 d2 ∧ Fo pos s2 n d2 ∧ Done (stT (ltOf cf) pos) s2 n d2) := by
                  have ab := AB.out
                  have ax := ABX.out
                  have f : From (s2 * t) n d2 d2 := From.refl _ _ _
                  have u : Up (stT (ltOf cf) pos) (s2 * t) n d2 := by
                    intro i j hi hij hj
                    rw [I.out.2.2.2 i (by omega), I.out.2.2.2 j (by omega)]
                    refine J.out.2.2 i j hij hj (sep_one (t := 2 * t) (by omega) (by omega))
                  have dn := I.out.2.2.1
                  rw [ab.1] at dn
                  exact ⟨I.out.1, I.out.2.1, done_next dn f u⟩
                go_wp2
                go_roundg (n - s)
                case measure => omega
                case rel => exact ⟨s2, d2, rfl, by have := SS.out; omega, by have := SS.out; omega, by have := SS.out; omega, S1, K⟩
        · have hltz : ¬ (s : Int) < (n : Int) := by omega
          have FU : Aside (From 0 n d0 dk ∧ Up (stT (ltOf cf) pos) 0 n dk) := ⟨J.out.1, done_one J.out.2.2 (by omega)⟩
          go_wp2
          go_end0
          exact ⟨rfl, dk, S1.out, FU.out⟩

set_option maxHeartbeats 1000000 in
theorem sortStable_any (M : Merging enc cf pos g cb d0 w0 blk off) (cap : Nat) (S : SW enc w0 blk off d0 w0) (asc : ∀ k l, k < l → l < d0.size → pos d0[k]! < pos d0[l]!) (hn : d0.size ≤ 1000000) :
    Calls Tryd.prog 35 #[.slice (some ⟨blk, off, none⟩) d0.size cap, .func (.func g) #[] cb] w0 fun e w' => e = .returned (.tuple #[]) ∧ ∃ d', SW enc w0 blk off d' w' ∧ From 0 d0.size d0 d' ∧ Up (stT (ltOf cf) pos) 0 d0.size d' := by
  have C := hide (stable_any M cap S asc hn)
  clear M S asc
  generalize d0.size = n at *
  go_enter Tryd.func35, Tryd.ntmps35
  go_wp2_with fail
  refine C.out.mono ?_
  rintro e w' ⟨rfl, h⟩
  have H := hide h
  clear h C
  go_wp2
  go_end0
  exact ⟨rfl, H.out⟩

end Go.Proofs.YtbeegcpmpgdbnaaDoor
