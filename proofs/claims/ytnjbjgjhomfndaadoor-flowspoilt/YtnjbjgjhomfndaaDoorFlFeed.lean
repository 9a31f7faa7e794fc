/-
  What flow.New, Waits, Dead and Feed come to at this program.
-/
import Derived.Test.YtnjbjgjhomfndaaDoorFlTake
import Derived.Test.YtnjbjgjhomfndaaDoorFlItems
namespace Go.Proofs.YtnjbjgjhomfndaaDoor
open Go.RowKit

set_option maxRecDepth 100000 in
theorem new_any (w : World) :
    Calls Tryd.prog 11 #[] w fun e w' => e = .returned (.pointer (some ⟨w.heap.size, 0, none⟩)) ∧ Flw w' w.heap.size w.heap.size [] false ∧ w'.heap.size = w.heap.size + 1 ∧ Below w.heap.size w w' := by
  have HF := hide (Flw.new w 61)
  have HS := hide (alloc_size w (.cells (flCells zero24 (.slice none 0 0) 0 false).toArray 61))
  have HB := hide ((Below.refl w.heap.size w).alloc (Nat.le_refl _) (.cells (flCells zero24 (.slice none 0 0) 0 false).toArray 61))
  go_enter Tryd.func11, Tryd.ntmps11
  go_wp2
  go_ret
  exact ⟨rfl, HF.out, HS.out, HB.out⟩

theorem waits_any (w : World) (p : Nat) (hd : List Int) (bv : Value) (n : Int) (d : Bool) (h : FlAt w p hd bv n d) :
    Calls Tryd.prog 15 #[.pointer (some ⟨p, 0, none⟩)] w fun e w' => e = .returned (.int .i64 n) ∧ w' = w := by
  have h25 := h.2.2.1
  clear h
  go_enter Tryd.func15, Tryd.ntmps15
  go_wp2
  go_ret
  exact ⟨rfl, rfl⟩
theorem dead_any (w : World) (p : Nat) (hd : List Int) (bv : Value) (n : Int) (d : Bool) (h : FlAt w p hd bv n d) :
    Calls Tryd.prog 16 #[.pointer (some ⟨p, 0, none⟩)] w fun e w' => e = .returned (.bool d) ∧ w' = w := by
  have h26 := h.2.2.2.1
  clear h
  go_enter Tryd.func16, Tryd.ntmps16
  go_wp2
  go_ret
  exact ⟨rfl, rfl⟩
theorem fwaits_any {w : World} {p q : Nat} {r : List Int} {d : Bool} (h : Flw w p q r d) :
    Calls Tryd.prog 15 #[.pointer (some ⟨p, 0, none⟩)] w fun e w' => e = .returned (.int .i64 r.length) ∧ w' = w := by
  obtain ⟨hd, bv, hA⟩ := h.at
  exact waits_any w p hd bv _ d hA
theorem fdead_any {w : World} {p q : Nat} {r : List Int} {d : Bool} (h : Flw w p q r d) :
    Calls Tryd.prog 16 #[.pointer (some ⟨p, 0, none⟩)] w fun e w' => e = .returned (.bool d) ∧ w' = w := by
  obtain ⟨hd, bv, hA⟩ := h.at
  exact dead_any w p hd bv _ d hA

/-- What Feed comes to. -/
def FeedDone (w : World) (p q : Nat) (L : List It) (s : List Int) (d' : Bool) (e : Ending) (w' : World) : Prop :=
  ∃ v' q', e = .returned v' ∧ Flw w' p q' s d' ∧ Besides p q w w' ∧ (q' = q ∨ q' = p ∨ w.heap.size ≤ q') ∧ Items w' w.heap.size (fun g => g < w.heap.size ∨ g = q') v' L
/-- What holds at the head of a round of Feed. -/
def Feeding (w : World) (p q0 N : Nat) (L : List It) (s : List Int) (d' : Bool) (bv lv : Value) (wr : World) : Prop :=
  ∃ (q : Nat) (r b : List Int) (d : Bool) (L0 L1 : List It), Flw wr p q r d ∧ (∀ z ∈ r, Byte z) ∧ (∀ z ∈ b, Byte z) ∧ Keeps (off p q0) w (fun w => Bytes w bv b) ∧
    Items wr w.heap.size (fun g => g < w.heap.size ∨ g = q) lv L0 ∧ Besides p q0 w wr ∧ (q = q0 ∨ q = p ∨ w.heap.size ≤ q) ∧ L = L0 ++ L1 ∧ FRuns d r b L1 s d' ∧ b.length ≤ N
def lenS : Value → Nat
  | .slice _ n _ => n
  | _ => 0
/-- The last head of a round. -/
theorem feeding_end {w : World} {p q0 : Nat} {L : List It} {s : List Int} {d' : Bool} {lv : Value} {wr : World} {q : Nat} {r b : List Int} {d : Bool} {L0 L1 : List It} (hf : Flw wr p q r d) (hI : Items wr w.heap.size (fun g => g < w.heap.size ∨ g = q) lv L0)
    (hB : Besides p q0 w wr) (hq : q = q0 ∨ q = p ∨ w.heap.size ≤ q) (hL : L = L0 ++ L1) (hR : FRuns d r b L1 s d') (he : b = [] ∨ d = true) : FeedDone w p q0 L s d' (.returned lv) wr := by
  rcases hR with ⟨rfl, hR⟩ | ⟨rfl, rfl, rfl, rfl, rfl⟩
  · rcases he with rfl | he
    · rw [List.append_nil] at hR
      have hg := hf.dead.2 rfl
      obtain ⟨rfl, rfl, rfl⟩ := hR.one (.short hg)
      rw [List.append_nil] at hL
      subst hL
      exact ⟨lv, q, rfl, hf, hB, hq, hI⟩
    · cases he
  · rw [List.append_nil] at hL
    subst hL
    exact ⟨lv, q, rfl, hf, hB, hq, hI⟩

set_option maxRecDepth 100000 in
set_option maxHeartbeats 1000000 in
theorem feed_any (w : World) (p q : Nat) (r : List Int) (d : Bool) (bv : Value) (b : List Int) (L : List It) (s : List Int) (d' : Bool) (hf : Flw w p q r d) (hr : ∀ z ∈ r, Byte z) (hb : ∀ z ∈ b, Byte z)
    (hB : Keeps (off p q) w fun w => Bytes w bv b) (hk : Keeps (off p q) w Ks) (hR : FRuns d r b L s d') (hlen : r.length + b.length ≤ 900000) :
    Calls Tryd.prog 13 #[.pointer (some ⟨p, 0, none⟩), bv] w fun e w' => FeedDone w p q L s d' e w' := by
  have HLL : Hid (L.length ≤ 900000) := hide (by have := hR.count hr hb; omega)
  have HS : Hid (Feeding w p q 900000 L s d' bv (.slice none 0 0) w) := hide ⟨q, r, b, d, [], L, hf, hr, hb, hB, Items.nil _ _ _, Besides.refl _ _ _, Or.inl rfl, rfl, hR, by omega⟩
  have HPW : Hid (p < w.heap.size) := hide hf.lt.1
  obtain ⟨a, cap, rfl, hc1, hc2⟩ := hB.self.form
  have hbl : (b.length : Nat) ≤ 900000 := by omega
  have HKK := hide hk
  clear hf hr hb hB hk hR hlen
  go_enter Tryd.func13, Tryd.ntmps13
  go_wp2_with fail
  go_loopw [1, 5] (fun bv lv wr => Feeding w p q 900000 L s d' bv lv wr) (fun bv _ _ => lenS bv)
  case atStart => exact HS.out
  case round =>
    clear HS hc1 hc2 hbl
    obtain ⟨q1, r, b, d, L0, L1, hf, hr, hb, hB, hI, hBs, hq, hL, hR, hN⟩ := hrel
    obtain ⟨a, cap, rfl, hc1, hc2⟩ := hB.self.form
    obtain ⟨la, lc, rfl, -, -⟩ := hI.length
    have HD := hide (fdead_any hf)
    have HE := hide (fun he => feeding_end (s := s) (d' := d') hf hI hBs hq hL hR he)
    by_cases hb0 : b.length = 0
    · have HE1 := hide (HE.out (Or.inl (List.length_eq_zero_iff.1 hb0)))
      clear hf hr hb hB hI hBs hq hL hR HE
      rw [hb0]
      go_wp2
      go_ret
      exact HE1.out
    have hbI : (0 : Int) < (b.length : Int) := by omega
    cases d with
    | true =>
      have HE1 := hide (HE.out (Or.inr rfl))
      clear hf hr hb hB hI hBs hq hL hR HE
      go_wp2_with fail
      refine HD.out.mono ?_
      rintro e w1 ⟨rfl, rfl⟩
      go_wp2
      go_ret
      exact HE1.out
    | false =>
      rcases hR with ⟨-, hR⟩ | ⟨h, -⟩
      case inr => cases h
      have hge := hf.dead.2 rfl
      obtain ⟨n, hn⟩ : ∃ n, n = min (room r) b.length := ⟨_, rfl⟩
      obtain ⟨r1, hr1⟩ : ∃ r1, r1 = r ++ b.take n := ⟨_, rfl⟩
      have hn0 : 0 < n := by have := room_pos hge; omega
      have hnb : n ≤ b.length := by omega
      have hb1 : ∀ z ∈ r1, Byte z := fun z hz => by
        rw [hr1] at hz
        rcases List.mem_append.1 hz with h | h
        · exact hr z h
        · exact hb z (List.mem_of_mem_take h)
      have hb2 : ∀ z ∈ b.drop n, Byte z := fun z hz => hb z (List.mem_of_mem_drop hz)
      have hst := feed_step hge hr hb (r1 := r1) (by rw [hr1, hn]) hR
      rw [← hn] at hst
      have TK := hide (ftake_any wr p q1 r _ b hf (hB.besides hBs hq).self (by omega))
      unfold TakeDone at TK
      rw [← hn, ← hr1] at TK
      obtain ⟨a1, c1, hrun, htail⟩ := tail_of a b.length cap n .i64 hnb
      have HRUN := hide hrun
      have hB1 : Keeps (off p q) w fun w => Bytes w (.slice a1 (b.length - n) c1) (b.drop n) := hB.map fun w' h => htail w' b h
      have HDL : Hid ((b.drop n).length = b.length - n) := hide (by simp)
      have HM := hide (And.intro hf (And.intro hI (And.intro hBs (And.intro hq (And.intro hL (And.intro hst (And.intro hB1 (And.intro hb1 hb2))))))))
      have HN1 := hide hnb
      have HN0 := hide hn0
      clear hf hr hb hB hI hBs hq hL hR HE hst hB1 hn hr1 hrun htail hge hb1 hb2
      have hni : (0 : Int) < (n : Int) := by omega
      have hnbI : (n : Int) ≤ (b.length : Int) := by omega
      go_wp2_with fail
      refine HD.out.mono ?_
      rintro e wd ⟨rfl, hwd⟩
      rw [hwd]
      clear hwd wd
      go_wp2_with fail
      refine TK.out.mono ?_
      rintro e w1 ⟨rfl, hmid, hbs1, hsz1⟩
      have TL := hide (tell_any w1 p q1 r1 hmid HM.out.2.2.2.2.2.2.2.1 ((HKK.out.besides HM.out.2.2.1 HM.out.2.2.2.1).besides hbs1 (Or.inl rfl)))
      have HB1 := hide hbs1
      have HS1 := hide hsz1
      clear hmid hbs1 hsz1 TK HD
      go_wp2_with (refine wp_from rfl (.tmp 20) (.tmp 21) rfl _ _ _ rfl rfl HRUN.out ?_)
      refine TL.out.mono ?_
      rintro e w2 hT
      rcases hT with ⟨hg4, rfl, q', hF2, hq', hbs2⟩ | ⟨hg4, v', rfl, hO, hF2, hbs2⟩
      · have R : Hid (Feeding w p q 900000 L s d' (.slice a1 (b.length - n) c1) (.slice la L0.length lc) (w2.alloc (.cells #[.string ⟨#[]⟩, .slice none 0 0, .int .i64 0] 52))) := hide (by
          obtain ⟨hf, hI, hBs, hq, hL, hst, hB1, hb1, hb2⟩ := HM.out
          have hb12 := HB1.out.trans hbs2
          have hal : Below w2.heap.size w2 (w2.alloc (.cells #[.string ⟨#[]⟩, .slice none 0 0, .int .i64 0] 52)) := (Below.refl _ _).alloc (Nat.le_refl _) _
          have hs1 := HS1.out
          have hpw := HPW.out
          have hsz := hBs.size
          rcases hst with ⟨-, hst⟩ | ⟨h5, -⟩ | ⟨h5, -⟩
          · refine ⟨q', r1, b.drop n, false, L0, L1, hF2.on hal, hb1, hb2, hB1, hI.move (Nat.le_trans hb12.size hal.size) (fun g hg ha => ?_) (fun g hg ha => ?_), (hBs.then hb12 hq).on hal, ?_, hL, Or.inl ⟨rfl, hst⟩, by have := HDL.out; omega⟩
            · have hag : ¬ g < w.heap.size ∧ g ≠ q1 := ⟨fun h => ha (Or.inl h), fun h => ha (Or.inr h)⟩
              rw [hal.block g (by have := hb12.size; omega)]
              exact hb12.block g hg (by omega) hag.2
            · have hag : ¬ g < w.heap.size ∧ g ≠ q1 := ⟨fun h => ha (Or.inl h), fun h => ha (Or.inr h)⟩
              rintro (h | h)
              · exact hag.1 h
              · rcases hq' with e | e <;> omega
            · rcases hq' with rfl | e
              · exact hq
              · exact Or.inr (Or.inr (by omega))
          · omega
          · omega)
        clear HM HB1 HS1 TL hF2 hq' hbs2
        have HNN := hide (And.intro HN0.out HN1.out)
        go_wp2
        go_roundw
        case rel => first | exact R.out | ((repeat apply Exists.intro); exact ⟨R.out, rfl⟩)
        case measure => have := HNN.out; simp [lenS]; omega
      · obtain ⟨va, vc, rfl, -, -⟩ := hO.bytes.form
        obtain ⟨L2, hL2, hR2⟩ : ∃ L2, L1 = ⟨geC r1, geB r1, geE r1⟩ :: L2 ∧ FRuns (decide (geE r1 = 5 ∨ geE r1 = 6)) [] (b.drop n) L2 s d' := by
          obtain ⟨hf, hI, hBs, hq, hL, hst, hB1, hb1, hb2⟩ := HM.out
          rcases hst with ⟨h4, -⟩ | ⟨h5, -, -, rfl, rfl, rfl⟩ | ⟨h5, -, L2, rfl, hst⟩
          · exact absurd h4 hg4
          · exact ⟨[], rfl, Or.inr ⟨decide_eq_true h5, rfl, rfl, rfl, rfl⟩⟩
          · exact ⟨L2, rfl, Or.inl ⟨decide_eq_false (by omega), hst⟩⟩
        have hal : Below w2.heap.size w2 ((w2.alloc (.cells #[.string (strOfNums (geC r1)), .slice va (geB r1).length vc, .int .i64 (geE r1)] 52)).alloc (.cells #[.string (strOfNums (geC r1)), .slice va (geB r1).length vc, .int .i64 (geE r1)] 52)) := ((Below.refl _ _).alloc (Nat.le_refl _) _).alloc (by rw [alloc_size]; omega) _
        have hcl : ∀ j y, (rowC [((⟨geC r1, geB r1, geE r1⟩ : It), Value.slice va (geB r1).length vc)])[j]? = some y → ((w2.alloc (.cells #[.string (strOfNums (geC r1)), .slice va (geB r1).length vc, .int .i64 (geE r1)] 52)).alloc (.cells #[.string (strOfNums (geC r1)), .slice va (geB r1).length vc, .int .i64 (geE r1)] 52)).cell? ((⟨w2.heap.size + 1, 0, none⟩ : Addr).add j) = some y := fun j y hj => by
          have := range_new (w2.alloc (.cells #[.string (strOfNums (geC r1)), .slice va (geB r1).length vc, .int .i64 (geE r1)] 52)) [.string (strOfNums (geC r1)), .slice va (geB r1).length vc, .int .i64 (geE r1)] 52 j y hj
          rw [alloc_size] at this
          rw [Addr.add_mid]
          exact this
        obtain ⟨hf, hI, hBs, hq, hL, -, hB1, hb1, hb2⟩ := HM.out
        have hb12 := HB1.out.trans hbs2
        have hs1 := HS1.out
        have hpw := HPW.out
        have hsz := hBs.size
        have hI4 : Items ((w2.alloc (.cells #[.string (strOfNums (geC r1)), .slice va (geB r1).length vc, .int .i64 (geE r1)] 52)).alloc (.cells #[.string (strOfNums (geC r1)), .slice va (geB r1).length vc, .int .i64 (geE r1)] 52)) w.heap.size (fun g => g < w.heap.size ∨ g = p) (.slice la L0.length lc) L0 := hI.move (Nat.le_trans hb12.size hal.size) (fun g hg ha => by
            have hag : ¬ g < w.heap.size ∧ g ≠ q1 := ⟨fun h => ha (Or.inl h), fun h => ha (Or.inr h)⟩
            rw [hal.block g (by have := hb12.size; omega)]
            exact hb12.block g hg (by omega) hag.2) (fun g hg ha => by
            have hag : ¬ g < w.heap.size ∧ g ≠ q1 := ⟨fun h => ha (Or.inl h), fun h => ha (Or.inr h)⟩
            rintro (h | h)
            · exact hag.1 h
            · omega)
        have hlvb : ∀ k, (Value.slice la L0.length lc).ownBlock = some k → w.heap.size ≤ k ∧ k < wr.heap.size := fun k hk => by
          obtain ⟨D, -, hrow, -⟩ := hI
          exact World.ownsRow.lt hrow k hk
        have hbod : Keeps (fun g => ¬ (g < w.heap.size ∨ g = p) ∧ (Value.slice la L0.length lc).ownBlock ≠ some g) ((w2.alloc (.cells #[.string (strOfNums (geC r1)), .slice va (geB r1).length vc, .int .i64 (geE r1)] 52)).alloc (.cells #[.string (strOfNums (geC r1)), .slice va (geB r1).length vc, .int .i64 (geE r1)] 52)) fun w => Bytes w (.slice va (geB r1).length vc) (geB r1) :=
          (hO.keeps fun k hk _ => ⟨by omega, fun e => by have := hlvb k e; omega⟩).below hal
        have HX := hide (And.intro hcl (And.intro hI4 hbod))
        have HALB := hide hal
        have HFF := hide (hF2.on hal)
        have HB4 := hide ((hBs.then hb12 hq).on hal)
        have HREST := hide (And.intro hB1 (And.intro hb2 (And.intro hL (And.intro hL2 hR2))))
        have HLV := hide hlvb
        have HLB : Hid (L0.length + 1 ≤ 900000) := hide (by have := HLL.out; rw [hL, hL2] at this; simp at this; omega)
        have HSW : Hid (w.heap.size ≤ w2.heap.size ∧ p < w.heap.size) := hide ⟨by have := hb12.size; omega, hpw⟩
        clear hal hcl hf hI hBs hq hL hB1 hb1 hb2 hb12 hs1 hpw hsz hI4 hlvb hbod hO hF2 hbs2 hL2 hR2 HM HB1 HS1 TL hg4
        generalize hxc : geC r1 = xc at *
        generalize hxb : geB r1 = xb at *
        generalize hxe : geE r1 = xe at *
        clear hxc hxb hxe
        go_wp2_with (at_builtin; refine wp_append_items rfl (.tmp 29) (.tmp 31) rfl w.heap.size (fun g => g < w.heap.size ∨ g = p) _ L0 rfl HX.out.2.1 _ ⟨w2.heap.size + 1, 0, none⟩ 1 1 rfl rfl [((⟨xc, xb, xe⟩ : It), Value.slice va xb.length vc)] rfl HX.out.1 ?c1 ?c2 ?c3 ?c4 ?_)
        case c1 =>
          intro y hy
          simp only [List.mem_cons, List.not_mem_nil, or_false] at hy
          subst hy
          exact ⟨rfl, HX.out.2.2⟩
        case c2 => have := HLB.out; simp; omega
        case c3 => have := HSW.out; simp; omega
        case c4 =>
          intro k hk
          have := HSW.out
          simp at hk
          omega
        intro v5 w5 hI5 hg5 hb5
        have R : Hid (Feeding w p q 900000 L s d' (.slice a1 (b.length - n) c1) v5 w5) := hide (by
          obtain ⟨hB1, hb2, hL, hL2, hR2⟩ := HREST.out
          have hne : ∀ k, (Value.slice la L0.length lc).ownBlock = some k → k ≠ p := fun k hk => by have := HLV.out k hk; have := HSW.out; omega
          have hpb : w5.heap[p]? = ((w2.alloc (.cells #[.string (strOfNums xc), .slice va xb.length vc, .int .i64 xe] 52)).alloc (.cells #[.string (strOfNums xc), .slice va xb.length vc, .int .i64 xe] 52)).heap[p]? := hg5.block p HFF.out.lt.1 (fun e => hne p e.symm rfl)
          refine ⟨p, [], b.drop n, _, L0 ++ [⟨xc, xb, xe⟩], L2, HFF.out.heap hpb hpb, by simp, hb2, hB1, hI5, HB4.out.grown hg5 (fun k hk => (HLV.out k hk).1), Or.inr (Or.inl rfl), ?_, hR2, ?_⟩
          · rw [hL, hL2]
            simp
          · have := HDL.out
            omega)
        clear HX HALB HFF HB4 HREST HLV HLB HSW hI5 hg5 hb5
        have HNN := hide (And.intro HN0.out HN1.out)
        go_wp2
        go_roundw
        case rel => first | exact R.out | ((repeat apply Exists.intro); exact ⟨R.out, rfl⟩)
        case measure => have := HNN.out; simp [lenS]; omega

end Go.Proofs.YtnjbjgjhomfndaaDoor
