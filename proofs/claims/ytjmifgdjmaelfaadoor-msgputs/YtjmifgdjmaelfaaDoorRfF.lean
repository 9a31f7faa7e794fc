import Derived.Test.YtjmifgdjmaelfaaDoorRefSha
import Derived.Test.YtjmifgdjmaelfaaDoorShaTw
import Derived.Test.YtjmifgdjmaelfaaDoorFrPure
import Derived.Test.YtjmifgdjmaelfaaDoorKit
import Derived.Test.YtjmifgdjmaelfaaDoorRefName
import Derived.Test.YtjmifgdjmaelfaaDoorFrBack
import Derived.Test.YtjmifgdjmaelfaaDoorKitA
import Derived.Test.YtjmifgdjmaelfaaDoorRfV
/-
  What pappusref03.Check answers at this program: the first four bytes of the sum of the sum, as a number.
-/
namespace Go.Proofs.YtjmifgdjmaelfaaDoor
open Go.RowKit

/-- Or'd together or summed up: four bytes make one number. -/
theorem checkI_sum (D : List Int) (d0 d1 d2 d3 : Int) (e0 : D.getD 0 0 = d0) (e1 : D.getD 1 0 = d1) (e2 : D.getD 2 0 = d2) (e3 : D.getD 3 0 = d3)
    (h0 : 0 ≤ d0 ∧ d0 < 256) (h1 : 0 ≤ d1 ∧ d1 < 256) (h2 : 0 ≤ d2 ∧ d2 < 256) (h3 : 0 ≤ d3 ∧ d3 < 256) :
    checkI D = d0 + d1 * 256 + d2 * 65536 + d3 * 16777216 := by
  have hc : ∀ x y, bits .or .u32 x y = bits .or .u32 y x := fun x y => by simp only [bits, BitVec.or_comm]
  have m0 : d0 % 4294967296 = d0 := by omega
  have m1 : d1 % 4294967296 * 256 % 4294967296 = d1 * 256 := by omega
  have m2 : d2 % 4294967296 * 65536 % 4294967296 = d2 * 65536 := by omega
  have m3 : d3 % 4294967296 * 16777216 % 4294967296 = d3 * 16777216 := by omega
  unfold checkI
  rw [e0, e1, e2, e3, m0, m1, m2, m3]
  rw [hc d0, bits_join .u32 32 (by decide) wraps_u32 8 (d1 * 256) d0 (by omega) (by omega) (by omega) (by omega) (by omega) (by omega),
    hc (d1 * 256 + d0), bits_join .u32 32 (by decide) wraps_u32 16 (d2 * 65536) (d1 * 256 + d0) (by omega) (by omega) (by omega) (by omega) (by omega) (by omega),
    hc (d2 * 65536 + (d1 * 256 + d0)), bits_join .u32 32 (by decide) wraps_u32 24 (d3 * 16777216) (d2 * 65536 + (d1 * 256 + d0)) (by omega) (by omega) (by omega) (by omega) (by omega) (by omega)]
  omega

set_option maxRecDepth 100000 in
set_option maxHeartbeats 1000000 in
theorem rcheck_any (w : World) (v : Value) (l : List Int) (hv : Bytes w v l) (hn : l.length ≤ 5000) :
    Calls Tryd.prog 79 #[v] w fun e w' => e = .returned (.int .u32 (checkI (digest (digest l)))) ∧ Below w.heap.size w w' := by
  have TW := hide (rtwice_any w v l hv hn)
  obtain ⟨a, cap, rfl, hc1, hc2⟩ := hv.form
  have HL2 := hide (digest_length (digest l))
  have b0 := digest_at (digest l) 0
  have b1 := digest_at (digest l) 1
  have b2 := digest_at (digest l) 2
  have b3 := digest_at (digest l) 3
  have HCH : Hid (∀ d0 d1 d2 d3, (digest (digest l)).getD 0 0 = d0 → (digest (digest l)).getD 1 0 = d1 → (digest (digest l)).getD 2 0 = d2 → (digest (digest l)).getD 3 0 = d3 → checkI (digest (digest l)) = d0 + d1 * 256 + d2 * 65536 + d3 * 16777216) := hide (fun d0 d1 d2 d3 e0 e1 e2 e3 => checkI_sum _ d0 d1 d2 d3 e0 e1 e2 e3 (e0 ▸ b0) (e1 ▸ b1) (e2 ▸ b2) (e3 ▸ b3))
  clear hv hn
  generalize digest (digest l) = D at *
  go_enter Tryd.func79, Tryd.ntmps79
  go_wp2_with fail
  refine TW.out.mono ?_
  rintro e w1 ⟨rfl, hbel1⟩
  have HB1 := hide hbel1
  have hKP := hash_kept w1 D HL2.out
  clear hbel1 TW
  have hl := HL2.out
  have c0 := hKP.2.cell0 0 (by omega)
  have c1 := hKP.2.cell0 1 (by omega)
  have c2 := hKP.2.cell0 2 (by omega)
  have c3 := hKP.2.cell0 3 (by omega)
  have HBK := hide hKP.1
  clear hKP hl
  obtain ⟨d0, h0⟩ : ∃ d0, D.getD 0 0 = d0 := ⟨_, rfl⟩
  obtain ⟨d1, h1⟩ : ∃ d1, D.getD 1 0 = d1 := ⟨_, rfl⟩
  obtain ⟨d2, h2⟩ : ∃ d2, D.getD 2 0 = d2 := ⟨_, rfl⟩
  obtain ⟨d3, h3⟩ : ∃ d3, D.getD 3 0 = d3 := ⟨_, rfl⟩
  rw [h0] at c0 b0
  rw [h1] at c1 b1
  rw [h2] at c2 b2
  rw [h3] at c3 b3
  obtain ⟨b00, b01⟩ := b0
  obtain ⟨b10, b11⟩ := b1
  obtain ⟨b20, b21⟩ := b2
  obtain ⟨b30, b31⟩ := b3
  have HCH := hide (HCH.out d0 d1 d2 d3 h0 h1 h2 h3)
  clear h0 h1 h2 h3
  go_wp2_with (refine wp_store_arr rfl 36 (.tmp 3) (.tmp 5) rfl _ 0 .u8 D rfl rfl 32 (hash_room _) info_h HL2.out ?_)
  go_ret
  refine ⟨?_, below_on HB1.out HBK.out⟩
  rw [HCH.out]
  simp

end Go.Proofs.YtjmifgdjmaelfaaDoor

/-
  What pappusref05.Magic answers at this program.
-/
namespace Go.Proofs.YtjmifgdjmaelfaaDoor
open Go.RowKit

theorem rmagic_any (w : World) :
    Calls Tryd.prog 78 #[] w fun e w' => e = .returned (.slice (some ⟨w.heap.size, 0, none⟩) 4 4) ∧ w' = w.alloc (.cells #[.int .u8 196, .int .u8 240, .int .u8 122, .int .u8 30] 5) := by
  go_enter Tryd.func78, Tryd.ntmps78
  go_wp2
  go_ret
  exact ⟨rfl, rfl⟩
theorem rmagic_own (w : World) (base : Nat) (hb : base ≤ w.heap.size) : Own (w.alloc (.cells #[.int .u8 196, .int .u8 240, .int .u8 122, .int .u8 30] 5)) base (.slice (some ⟨w.heap.size, 0, none⟩) 4 4) magicL :=
  World.ownsRow_lit w #[.int .u8 196, .int .u8 240, .int .u8 122, .int .u8 30] 4 hb (by simp [maxLen]) (by simp)

end Go.Proofs.YtjmifgdjmaelfaaDoor

/-
  What pappusref05.Magic and pappusref05.Put answer at this program: the document's frame.
-/
namespace Go.Proofs.YtjmifgdjmaelfaaDoor
open Go.RowKit

/-- What holds at the head of a round of Put. -/
def Padding (w : World) (B : List Int) (v : Value) (wr : World) : Prop :=
  ∃ k : Nat, B.length + k ≤ 16 ∧ Own wr w.heap.size v (B ++ List.replicate k 0) ∧ Below w.heap.size w wr
def lenV : Value → Nat
  | .slice _ n _ => n
  | _ => 0

set_option maxRecDepth 100000 in
set_option maxHeartbeats 1000000 in
theorem rfput_any (w : World) (s : ByteArray) (v : Value) (l : List Int) (hv : Bytes w v l) (hs : s.size ≤ 9223372036854775807) :
    Calls Tryd.prog 57 #[.string s, v] w fun e w' => ∃ v', e = .returned (.tuple #[v', .int .i64 (fpE (strL s) l)]) ∧ Bytes w' v' (fpL (strL s) l) ∧ Below w.heap.size w w' := by
  have N := hide (rnamed_any s w hs)
  rcases fp_cases (strL s) l with ⟨hn, hE⟩ | ⟨hn, hl, hE⟩ | ⟨hn, hl, hE, hL⟩
  · have hL : fpL (strL s) l = [] := by unfold fpL; rw [if_neg (by omega)]
    rw [hE, hL]
    rw [hn] at N
    obtain ⟨a, cap, rfl, hc1, hc2⟩ := hv.form
    clear hv hn hE hL
    go_enter Tryd.func57, Tryd.ntmps57
    go_wp2_with fail
    refine N.out.mono ?_
    rintro e w' ⟨rfl, rfl⟩
    go_wp2
    go_ret2
    exact ⟨_, rfl, Bytes.nil _, Below.refl _ _⟩
  · have hL : fpL (strL s) l = [] := by unfold fpL; rw [if_neg (by omega)]
    rw [hE, hL]
    rw [hn] at N
    obtain ⟨a, cap, rfl, hc1, hc2⟩ := hv.form
    have hlb : 2048 < (l.length : Int) := by omega
    clear hv hn hE hL
    go_enter Tryd.func57, Tryd.ntmps57
    go_wp2_with fail
    refine N.out.mono ?_
    rintro e w' ⟨rfl, rfl⟩
    go_wp2
    go_ret2
    exact ⟨_, rfl, Bytes.nil _, Below.refl _ _⟩
  · have hna := named_all hn
    rw [strL_length] at hna
    have M := hide (fun wx => rmagic_any wx)
    have C := hide (fun wx (h : Bytes wx v l) => rcheck_any wx v l h (by omega))
    change Hid (∀ wx, Bytes wx v l → Calls Tryd.prog 79 #[v] wx fun e w' => e = .returned (.int .u32 (chk l)) ∧ Below wx.heap.size wx w') at C
    have P1 := hide (fun wx => rput_any (l.length : Int) 4 wx ⟨by omega, by omega⟩)
    obtain ⟨ck0, ck1⟩ := chk_word l
    have P2 := hide (fun wx => rput_any (chk l) 4 wx ⟨by omega, by omega⟩)
    have e1 : putL (l.length : Int) 4 = put 4 l.length := by unfold putL; rw [if_pos ⟨rfl, by simp; omega⟩]; rfl
    have e2 : putL (chk l) 4 = put 4 (chk l) := by unfold putL; rw [if_pos ⟨rfl, by simp; omega⟩]; rfl
    rw [e1] at P1
    rw [e2] at P2
    rw [hE, hL]
    have HFF : Hid (∀ k : Nat, 4 + (strL s).length + k = 16 → magicL ++ strL s ++ List.replicate k 0 ++ put 4 l.length ++ put 4 (chk l) ++ l = frameL (strL s) l) := hide (fun k hk => by
      unfold frameL headL
      rw [show k = 12 - (strL s).length by omega]
      simp only [List.append_assoc])
    have HSL := hide (strL_length s)
    have HV := hide hv
    rw [hn] at N
    obtain ⟨a, cap, rfl, hc1, hc2⟩ := hv.form
    have hlb : (l.length : Int) ≤ 2048 := by omega
    clear hv e1 e2 hn hE hL
    generalize frameL (strL s) l = F at *
    generalize chk l = ck at *
    generalize putE (l.length : Int) 4 = pe1 at *
    generalize putE ck 4 = pe2 at *
    go_enter Tryd.func57, Tryd.ntmps57
    go_wp2_with fail
    refine N.out.mono ?_
    rintro e w' ⟨rfl, rfl⟩
    go_wp2_with fail
    refine (M.out _).mono ?_
    rintro e w1 ⟨rfl, rfl⟩
    have HO1 := hide (rmagic_own w' w'.heap.size (Nat.le_refl _))
    have HB1 := hide ((Below.refl w'.heap.size w').alloc (Nat.le_refl _) (.cells #[.int .u8 196, .int .u8 240, .int .u8 122, .int .u8 30] 5))
    generalize w'.alloc (.cells #[.int .u8 196, .int .u8 240, .int .u8 122, .int .u8 30] 5) = W1 at *
    go_wp2_with (at_builtin; refine wp_append_str rfl (.tmp 17) (.tmp 18) rfl w'.heap.size _ magicL rfl HO1.out s rfl ?c1 HB1.out.size ?_)
    case c1 => simp [magicL]; omega
    intro v2 w2 hown2 hbel2
    have HO2 := hide hown2
    have HB2 := hide (HB1.out.trans hbel2)
    clear hown2 hbel2 HO1 HB1
    have HP : Hid (Padding w' (magicL ++ strL s) v2 w2) := hide ⟨0, by rw [List.length_append, HSL.out]; simp [magicL]; omega, by rw [List.replicate_zero, List.append_nil]; exact HO2.out, HB2.out⟩
    clear HO2 HB2
    go_wp2_with fail
    go_loopw [6] (fun v wr => Padding w' (magicL ++ strL s) v wr) (fun v _ => 16 - lenV v)
    case atStart => exact HP.out
    case round =>
      obtain ⟨k, hk, hown, hbel⟩ := hrel
      have HO := hide hown
      have HB := hide hbel
      obtain ⟨a3, cap3, rfl, hq1, hq2⟩ := hown.bytes.form
      rw [List.length_append, HSL.out] at hk
      have hml : magicL.length = 4 := rfl
      have hlen : (magicL ++ strL s ++ List.replicate k 0).length = 4 + s.size + k := by simp [HSL.out, hml]; omega
      have HNX : Hid (magicL ++ strL s ++ List.replicate k 0 ++ [0] = magicL ++ strL s ++ List.replicate (k + 1) 0) := hide (by rw [List.replicate_succ', ← List.append_assoc])
      have HFK := hide (HFF.out k)
      have HLK : Hid (4 + (strL s).length + k = (magicL ++ strL s ++ List.replicate k 0).length) := hide (by rw [hlen, HSL.out])
      have hm16 : (magicL ++ strL s ++ List.replicate k 0).length ≤ 16 := by rw [hlen, ← hml]; omega
      have HK1 : Hid ((magicL ++ strL s ++ List.replicate k 0).length < 16 → (magicL ++ strL s).length + (k + 1) ≤ 16) := hide (fun q => by rw [hlen] at q; rw [List.length_append, HSL.out, hml]; omega)
      have HOB : Hid (∀ j, (Value.slice a3 (magicL ++ strL s ++ List.replicate k 0).length cap3).ownBlock = some j → j < wr.heap.size) := hide (fun j hj => (World.ownsRow.lt hown j hj).2)
      clear hown hbel hlen hml hk
      generalize hL : magicL ++ strL s ++ List.replicate k 0 = L at *
      clear hL
      by_cases hlt : L.length < 16
      · go_wp2_with (at_builtin; refine wp_append rfl (.tmp 23) (.tmp 24) rfl w'.heap.size _ L rfl (HO.out.alloc _) _ [0] rfl (Bytes.one _ _) ?c1 ?c2 ?_)
        case c1 => simp; omega
        case c2 => have := HB.out.size; simp; omega
        intro v4 w4 hown4 hbel4
        obtain ⟨a4, cap4, rfl, -⟩ := hown4.bytes.form
        have HR : Hid (Padding w' (magicL ++ strL s) (.slice a4 (L ++ [0]).length cap4) w4) := hide ⟨k + 1, HK1.out hlt, by rw [← HNX.out]; exact hown4, (HB.out.alloc HB.out.size _).trans hbel4⟩
        clear hown4 hbel4
        go_wp2
        go_roundw
        case rel => exact HR.out
        case measure => simp [lenV]; omega
      · have HL16 : Hid (L.length = 16) := hide (by omega)
        go_wp2_with fail
        refine (P1.out _).mono ?_
        rintro e w4 ⟨v4, rfl, hown4, hbel4⟩
        have HO4 := hide (HO.out.on hbel4)
        have HG4 : Hid (wr.heap.size ≤ w4.heap.size) := hide hbel4.size
        have HB4 := hide (below_on HB.out hbel4)
        have HN4 := hide hown4.bytes
        clear hown4 hbel4 HO
        go_wp2_with fail
        refine (C.out _ (HV.out.below HB4.out)).mono ?_
        rintro e w5 ⟨rfl, hbel5⟩
        have HO5 := hide (HO4.out.on hbel5)
        have HG5 : Hid (wr.heap.size ≤ w5.heap.size) := hide (by have := hbel5.size; have := HG4.out; omega)
        have HB5 := hide (below_on HB4.out hbel5)
        have HN5 := hide (HN4.out.below hbel5)
        clear hbel5 HO4 HB4 HN4
        go_wp2_with fail
        refine (P2.out _).mono ?_
        rintro e w6 ⟨v6, rfl, hown6, hbel6⟩
        have HO6 := hide (HO5.out.on hbel6)
        have HB6 := hide (below_on HB5.out hbel6)
        have HN6 := hide (HN5.out.below hbel6)
        have HC6 := hide (hown6.mine (by rw [put_length]; omega))
        have HG6 : Hid (wr.heap.size ≤ w5.heap.size) := HG5
        clear hown6 hbel6 HO5 HB5 HN5
        have HPL := hide (put_length 4 (l.length : Int))
        have HPC := hide (put_length 4 ck)
        go_wp2_with (at_builtin; refine wp_append_far rfl (.tmp 40) (.tmp 41) rfl w'.heap.size _ L rfl HO6.out _ (put 4 (l.length : Int)) rfl HN6.out ?c1 HB6.out.size w5.heap.size _ _ HC6.out ?c3 ?_)
        case c1 => have := HPL.out; omega
        case c3 => intro k hk; have := HOB.out k hk; have := HG6.out; omega
        intro v7 w7 hown7 hbel7 hc7
        obtain ⟨L2, hL2⟩ : ∃ L2, L2 = L ++ put 4 (l.length : Int) := ⟨_, rfl⟩
        have HL2 : Hid (L2.length = 20) := hide (by rw [hL2, List.length_append, HPL.out, HL16.out])
        rw [← hL2] at hown7
        have HE2 := hide hL2
        clear hL2
        have HO7 := hide hown7
        have HB7 := hide (HB6.out.trans hbel7)
        have HC7 := hide hc7
        clear hown7 hbel7 hc7 HO6 HC6 HN6
        go_wp2_with (at_builtin; refine wp_append rfl (.tmp 43) (.tmp 44) rfl w'.heap.size _ L2 rfl HO7.out _ (put 4 ck) rfl HC7.out ?c1 HB7.out.size ?_)
        case c1 => rw [HL2.out, HPC.out]; omega
        intro v8 w8 hown8 hbel8
        obtain ⟨L3, hL3⟩ : ∃ L3, L3 = L2 ++ put 4 ck := ⟨_, rfl⟩
        have HL3 : Hid (L3.length = 24) := hide (by rw [hL3, List.length_append, HPC.out, HL2.out])
        rw [← hL3] at hown8
        have HE3 := hide hL3
        clear hL3
        have HO8 := hide hown8
        have HB8 := hide (HB7.out.trans hbel8)
        clear hown8 hbel8 HO7 HC7
        go_wp2_with (at_builtin; refine wp_append rfl (.tmp 46) (.tmp 47) rfl w'.heap.size _ L3 rfl HO8.out _ l rfl (HV.out.below HB8.out) ?c1 HB8.out.size ?_)
        case c1 => rw [HL3.out]; omega
        intro v9 w9 hown9 hbel9
        have HR : Hid (∃ v', Ending.returned (.tuple #[v9, .int .i64 0]) = .returned (.tuple #[v', .int .i64 0]) ∧ Bytes w9 v' F ∧ Below w'.heap.size w' w9) := hide ⟨v9, rfl, by
          have := hown9.bytes
          rwa [HE3.out, HE2.out, HFK.out (by rw [HLK.out, HL16.out])] at this, HB8.out.trans hbel9⟩
        clear hown9 hbel9
        go_wp2
        go_ret2
        exact HR.out

end Go.Proofs.YtjmifgdjmaelfaaDoor
