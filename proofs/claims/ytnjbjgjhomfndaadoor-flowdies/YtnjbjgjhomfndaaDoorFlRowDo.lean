/-
  What pappuslaw06.row answers at this program, whatever the messages (as many as the laws look at).
-/
import Derived.Test.YtnjbjgjhomfndaaDoorFlRow
namespace Go.Proofs.YtnjbjgjhomfndaaDoor
open Go.ChangeShapes Go.WideShapes Go.ChangeAt Go.RowKit

theorem row_form {w : World} {base n size : Nat} {e : TypeId} {v : Value} {xs : List Value} (h : w.ownsRow base e size v n xs) : ∃ a c, v = .slice a n c := by
  rcases h.2 with ⟨rfl, h0⟩ | ⟨g, cap, cur, rfl, -⟩
  · exact ⟨none, 0, by rw [h0]⟩
  · exact ⟨_, _, rfl⟩
/-- What holds at the head of a round. -/
def Rowing (w : World) (M : List (ByteArray × List Int)) (bv wv i : Value) (wr : World) : Prop :=
  ∃ (k : Nat) (D : List (It × Value)), k ≤ M.length ∧ i = .int .i64 k ∧ Own wr w.heap.size bv (rowB (M.take k)) ∧ D.map Prod.fst = rowI (M.take k) ∧ wr.ownsRow w.heap.size 52 3 wv D.length (rowC D) ∧ (∀ x ∈ D, x.2.oneCell' = true ∧ Bytes w x.2 x.1.b) ∧ Below w.heap.size w wr
/-- What row comes to. -/
def RowDone (w : World) (M : List (ByteArray × List Int)) (e : Ending) (w' : World) : Prop :=
  ∃ bv wv, e = .returned (.tuple #[bv, wv]) ∧ Own w' w.heap.size bv (rowB M) ∧ Items w' w.heap.size (fun g => bv.ownBlock = some g) wv (rowI M) ∧ Below w.heap.size w w'
theorem rowing_end {w : World} {M : List (ByteArray × List Int)} {bv wv : Value} {wr : World} {k : Nat} {D : List (It × Value)} (hk : M.length ≤ k) (hO : Own wr w.heap.size bv (rowB (M.take k))) (hD : D.map Prod.fst = rowI (M.take k)) (hrow : wr.ownsRow w.heap.size 52 3 wv D.length (rowC D)) (hbod : ∀ x ∈ D, x.2.oneCell' = true ∧ Bytes w x.2 x.1.b) (hB : Below w.heap.size w wr) :
    RowDone w M (.returned (.tuple #[bv, wv])) wr := by
  rw [List.take_of_length_le hk] at hO hD
  refine ⟨bv, wv, rfl, hO, ⟨D, hD, hrow, fun k hk e => ?_, fun x hx => ⟨(hbod x hx).1, (hbod x hx).2.old hB fun g hg => ⟨fun e => ?_, fun e => ?_⟩⟩⟩, hB⟩
  · rcases rows_apart hrow hO (by decide) with h | h
    · rw [h] at hk; cases hk
    · exact h (hk.trans e.symm)
  · have := (World.ownsRow.lt hO g e).1
    omega
  · have := (World.ownsRow.lt hrow g e).1
    omega

set_option maxRecDepth 100000 in
set_option maxHeartbeats 2000000 in
theorem row_any (M : List (ByteArray × List Int)) (v : Value) (w : World) (hv : Msgs w v M) (hM : ∀ m ∈ M, MsgOk m) (hk : Ks w) (hl : M.length ≤ 20) :
    Calls Tryd.prog 17 #[v] w fun e w' => RowDone w M e w' := by
  have HV := hide hv
  have HM := hide hM
  have HK := hide hk
  obtain ⟨a, cap, rfl, hc1, hc2, hc3⟩ := hv
  have HS : Hid (Rowing w M (.slice none 0 0) (.slice none 0 0) (.int .i64 0) w) := hide ⟨0, [], by omega, rfl, by simpa [rowB] using Own.nil w w.heap.size, by simp [rowI], World.ownsRow_nil _ _ _ _, by simp, Below.refl _ _⟩
  clear hM hk hc3
  go_enter Tryd.func17, Tryd.ntmps17
  go_wp2
  go_loopw [4, 5, 12] (fun bv wv i wr => Rowing w M bv wv i wr) (fun _ _ i _ => M.length - (intOf i).toNat)
  case atStart => exact HS.out
  case round =>
    clear HS
    obtain ⟨k, D, hk, rfl, hO, hD, hrow, hbod, hB⟩ := hrel
    obtain ⟨ba, bc, rfl, -, -⟩ := hO.bytes.form
    obtain ⟨wa, wc, rfl⟩ := row_form hrow
    by_cases hlt : k < M.length
    · obtain ⟨a1, cap1, e1, -, -, h5⟩ := HV.out
      obtain ⟨b, off, rfl, hc⟩ := h5 (by omega)
      simp only [Value.slice.injEq, true_and] at e1
      obtain ⟨rfl, rfl⟩ := e1
      obtain ⟨m, hm⟩ : ∃ m, M[k]? = some m := ⟨_, List.getElem?_eq_getElem hlt⟩
      obtain ⟨mv, c0, c1, c2⟩ := hc k m hm
      have k0 := (hB.cell (p := ⟨b, off + 2 * k, none⟩) (World.block_lt_of_cell? _ _ c0)).trans c0
      have k1 := (hB.cell (p := ⟨b, off + 2 * k + 1, none⟩) (World.block_lt_of_cell? _ _ c1)).trans c1
      have hmo := HM.out m (List.mem_of_getElem? hm)
      obtain ⟨nB, nI⟩ := rowB_next hm
      have hk1 : (k : Int) < (M.length : Int) := by omega
      have hmul : off + k * 2 = off + 2 * k := by omega
      obtain ⟨s, body⟩ := m
      obtain ⟨va, vc, rfl, hv1, hv2⟩ := c2.form
      have hal : Below wr.heap.size wr (wr.alloc (.cells #[.string s, .slice va body.length vc] 43)) := (Below.refl _ _).alloc (Nat.le_refl _) _
      have P := hide (fun wx (h : Below w.heap.size w wx) => fput_any wx s (.slice va body.length vc) body (c2.below h) (HK.out.on h) hmo.1)
      have hBa := below_on hB hal
      have hrn := range_new wr [.string s, .slice va body.length vc] 43
      have HBX : Hid (∀ wx, Below (wr.alloc (.cells #[.string s, .slice va body.length vc] 43)).heap.size (wr.alloc (.cells #[.string s, .slice va body.length vc] 43)) wx → wx.cell? ⟨wr.heap.size, 0, none⟩ = some (.string s) ∧ wx.cell? ⟨wr.heap.size, 1, none⟩ = some (.slice va body.length vc)) := hide (fun wx hb => by
        have h := range_on hrn hb
        exact ⟨h 0 _ rfl, h 1 _ rfl⟩)
      have x0 := (HBX.out _ (Below.refl _ _)).1
      have x1 := (HBX.out _ (Below.refl _ _)).2
      have HALL := hide (And.intro hO (And.intro hD (And.intro hrow (And.intro hbod (And.intro hB (And.intro nB (And.intro nI (And.intro c2 hal))))))))
      have HBA := hide hBa
      have HRL : Hid ((rowB (M.take k)).length ≤ 41440 ∧ D.length ≤ 20) := hide (by
        have h1 := rowB_upto (M.take k)
        have h2 := rowI_upto (M.take k)
        have h3 := congrArg List.length hD
        simp only [List.length_map, List.length_take] at h1 h2 h3
        omega)
      clear hO hD hrow hbod hB c0 c1 c2 hc h5 hal hBa hrn hmo nB nI
      unfold FPutDone at P
      by_cases hE : fpE (strL s) body = 0
      · obtain ⟨hnm, hbl'⟩ := one_ok (m := (s, body)) hE
        have hbl : body.length ≤ 2048 := hbl'
        have hfl : fpL (strL s) body = frameL (strL s) body := by unfold fpL frameL; rw [if_pos hE]
        rw [hE, hfl] at P
        have h1B : oneB (s, body) = frameL (strL s) body := by unfold oneB; rw [if_pos hE]
        have h1I : oneI (s, body) = [⟨strL s, body, 0⟩] := by unfold oneI; rw [if_pos hE]
        have hFL : (frameL (strL s) body).length = 24 + body.length := frameL_length hnm body
        have HFL : Hid ((frameL (strL s) body).length ≤ 2072) := hide (by omega)
        have H1 := hide (And.intro h1B h1I)
        clear hFL hfl h1B h1I hnm hbl hbl' hE
        generalize hNB : rowB (M.take k) = NB at *
        generalize hNI : rowI (M.take k) = NI at *
        clear hNB hNI
        generalize hF : frameL (strL s) body = F at *
        clear hF
        go_wp2_with fail
        refine (P.out _ HBA.out).mono ?_
        rintro e w2 ⟨v2, rfl, hm2, -, hb2⟩
        have hm2 := hm2 trivial
        have HM2 := hide hm2.bytes
        obtain ⟨b2, cap2, rfl, hq1, hq2, -⟩ := hm2
        have y0 := (HBX.out _ hb2).1
        have y1 := (HBX.out _ hb2).2
        have hbw := below_on HALL.out.2.2.2.2.2.2.2.2 hb2
        have HO2 := hide (HALL.out.1.on hbw)
        have HSZ : Hid (w.heap.size ≤ w2.heap.size) := hide (Nat.le_trans HALL.out.2.2.2.2.1.size hbw.size)
        have HBW := hide hbw
        clear hb2 hbw x0 x1 k0 k1
        go_wp2_with (at_builtin; refine wp_append_grew rfl (.tmp 26) (.tmp 27) rfl w.heap.size _ NB rfl HO2.out _ F rfl HM2.out ?c1 HSZ.out ?_)
        case c1 => have := HRL.out; have := HFL.out; omega
        intro v3 w3 ho3 hg3 hl3
        have hbl3 : ∀ k, (Value.slice ba NB.length bc).ownBlock = some k → k < wr.heap.size := fun k hk => (World.ownsRow.lt HALL.out.1 k hk).2
        have z0 := hg3.cell y0 (fun e => by have := hbl3 _ e.symm; simp at this)
        have z1 := hg3.cell y1 (fun e => by have := hbl3 _ e.symm; simp at this)
        obtain ⟨hO, hD, hrow, hbod, hB, nB, nI, c2, hal⟩ := HALL.out
        obtain ⟨va3, vc3, rfl, -, -⟩ := ho3.bytes.form
        have hrow2 : w2.ownsRow w.heap.size 52 3 (.slice wa D.length wc) D.length (rowC D) := by
          refine ⟨hrow.1, ?_⟩
          rcases hrow.2 with h0 | ⟨g, cap, cur, hv, hg, hh, r⟩
          · exact Or.inl h0
          · exact Or.inr ⟨g, cap, cur, hv, hg, by rw [HBW.out.block g (Array.getElem?_eq_some_iff.1 hh).1]; exact hh, r⟩
        have hrow3 := World.ownsRow.kept hrow2 hg3 (rows_apart hrow2 HO2.out (by decide))
        have hB3 : Below w.heap.size w w3 := (below_on hB HBW.out).trans ((Below.refl _ w2).grown hg3 HSZ.out (fun k hk => (hl3 k hk).1))
        have HO4 := hide (ho3.alloc (.cells #[.string s, .slice va body.length vc, .int .i64 0] 52))
        have HR4 := hide (World.ownsRow.alloc hrow3 (.cells #[.string s, .slice va body.length vc, .int .i64 0] 52))
        have HB4 := hide (hB3.alloc hB3.size (.cells #[.string s, .slice va body.length vc, .int .i64 0] 52))
        have HCL : Hid (∀ j z, (itC ((⟨strL s, body, 0⟩ : It), Value.slice va body.length vc))[j]? = some z → (w3.alloc (.cells #[.string s, .slice va body.length vc, .int .i64 0] 52)).cell? ((⟨w3.heap.size, 0, none⟩ : Addr).add j) = some z) := hide (fun j z hj => by
          have hj' : [Value.string s, .slice va body.length vc, .int .i64 0][j]? = some z := by
            have e : itC ((⟨strL s, body, 0⟩ : It), Value.slice va body.length vc) = [Value.string s, .slice va body.length vc, .int .i64 0] := by
              show [Value.string (strOfNums (strL s)), _, _] = _
              rw [str_strL]
            rw [e] at hj
            exact hj
          have := range_new w3 [.string s, .slice va body.length vc, .int .i64 0] 52 j z hj'
          rw [Addr.add_mid]
          exact this)
        have HREST := hide (And.intro hD (And.intro hbod (And.intro nB (And.intro nI (And.intro c2 (And.intro H1.out HRL.out))))))
        have hlen3 : (NB ++ F).length = NB.length + F.length := List.length_append
        clear hO hD hrow hbod hB nB nI c2 hal hrow2 hrow3 hB3 ho3 hg3 hl3 hbl3 y0 y1 HALL HO2 HBW HSZ HM2 H1 HRL HFL HBX HBA
        generalize hNF : NB ++ F = NF at *
        have HNF := hide hNF
        clear hlen3 hNF
        go_wp2_with (at_builtin; refine wp_append_it rfl (.tmp 29) (.tmp 35) rfl w.heap.size _ D rfl HR4.out _ ⟨w3.heap.size, 0, none⟩ 1 1 rfl rfl ((⟨strL s, body, 0⟩ : It), Value.slice va body.length vc) rfl HCL.out rfl ?c1 HB4.out.size ?_)
        case c1 => have := HREST.out.2.2.2.2.2.2; omega
        intro v5 w5 hr5 hg5 hl5
        have R : Hid (Rowing w M (.slice va3 NF.length vc3) v5 (.int .i64 ((k + 1 : Nat) : Int)) w5) := hide (by
          obtain ⟨hD, hbod, nB, nI, c2, ⟨h1B, h1I⟩, -⟩ := HREST.out
          have ho5 := World.ownsRow.kept HO4.out hg5 (rows_apart HO4.out HR4.out (by decide))
          refine ⟨k + 1, D ++ [((⟨strL s, body, 0⟩ : It), Value.slice va body.length vc)], by omega, rfl, ?_, ?_, by rw [List.length_append]; exact hr5, ?_, HB4.out.trans ((Below.refl _ _).grown hg5 HB4.out.size hl5)⟩
          · rw [nB, h1B, HNF.out]
            exact ho5
          · rw [nI, h1I, List.map_append, hD]
            rfl
          · intro x hx
            rcases List.mem_append.1 hx with hx | hx
            · exact hbod x hx
            · simp only [List.mem_cons, List.not_mem_nil, or_false] at hx
              subst hx
              exact ⟨rfl, c2⟩)
        clear hr5 hg5 hl5 HREST HCL HO4 HR4 HB4 z0 z1
        go_wp2
        go_roundw
        case rel => first | exact R.out | ((repeat apply Exists.intro); exact ⟨R.out, rfl⟩)
        case measure => simp [intOf]; omega
      · have h1B : oneB (s, body) = [] := by unfold oneB; rw [if_neg hE]
        have h1I : oneI (s, body) = [] := by unfold oneI; rw [if_neg hE]
        have R : Hid (∀ wx, Below (wr.alloc (.cells #[.string s, .slice va body.length vc] 43)).heap.size (wr.alloc (.cells #[.string s, .slice va body.length vc] 43)) wx → Rowing w M (.slice ba (rowB (M.take k)).length bc) (.slice wa D.length wc) (.int .i64 ((k + 1 : Nat) : Int)) wx) := hide (fun wx hb => by
          obtain ⟨hO, hD, hrow, hbod, hB, nB, nI, c2, hal⟩ := HALL.out
          have hbw := below_on hal hb
          rw [h1B, List.append_nil] at nB
          rw [h1I, List.append_nil] at nI
          refine ⟨k + 1, D, by omega, rfl, by rw [nB]; exact hO.on hbw, by rw [nI]; exact hD, ?_, hbod, below_on hB hbw⟩
          refine ⟨hrow.1, ?_⟩
          rcases hrow.2 with h0 | ⟨g, cap, cur, hv, hg, hh, r⟩
          · exact Or.inl h0
          · exact Or.inr ⟨g, cap, cur, hv, hg, by rw [hbw.block g (Array.getElem?_eq_some_iff.1 hh).1]; exact hh, r⟩)
        have hne : (fpE (strL s) body == 0) = false := beq_eq_false_iff_ne.2 hE
        clear HALL HRL
        generalize (rowB (M.take k)).length = NB at *
        generalize fpE (strL s) body = E at *
        go_wp2_with fail
        refine (P.out _ HBA.out).mono ?_
        rintro e w2 ⟨v2, rfl, -, hnil, hb2⟩
        obtain rfl := hnil hE
        have R2 := hide (R.out _ hb2)
        clear hnil hb2 R
        go_wp2
        go_roundw
        case rel => first | exact R2.out | ((repeat apply Exists.intro); exact ⟨R2.out, rfl⟩)
        case measure => simp [intOf]; omega
    · have hk2 : (M.length : Int) ≤ (k : Int) := by omega
      have HE := hide (rowing_end (by omega) hO hD hrow hbod hB)
      clear hO hD hrow hbod hB
      generalize (rowB (M.take k)).length = NB at *
      go_wp2
      go_ret2
      exact HE.out

end Go.Proofs.YtnjbjgjhomfndaaDoor
