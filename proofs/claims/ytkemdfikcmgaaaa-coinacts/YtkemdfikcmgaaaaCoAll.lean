/-
  What coin.Set's All answers at this program, whatever the set.
-/
import Derived.Test.YtkemdfikcmgaaaaCoSort
namespace Go.Proofs.Ytkemdfikcmgaaaa
open Go.RowKit Go.Maps
open Go.WideElems (rg)

theorem ranges_key {w : World} {k r n cnt : Nat} {es : List (Lit × DataW TOut)} {left : Lit → Bool} (h : w.ranges Try.prog 47 outElem k r n (.map es) left cnt) {kl : Lit} (hl : left kl = true) : ∃ p ∈ es, p.1 = kl := by
  obtain ⟨es0, clock, since, seen, c0, hb, F, hs, hD, hr, hold, hc, hl1, hl2, -⟩ := h
  obtain ⟨x, hx, e⟩ := hl2 kl hl
  cases hD
  exact ⟨rg Try.prog 47 outElem x, mem_sorted.2 (List.mem_map_of_mem hx), e⟩
set_option maxRecDepth 100000 in
/-- The step of a range over a set's map. -/
theorem wp_next_co {w : World} {ops : Array Oper} {rest : List Oper} {o : Oper} {a : Act} {Q : Exit → Act → World → Prop} (hg : o.guard = none) (it : Operand) (hop : o.op = Op.next it false) (b r n : Nat) (es : List (Lit × DataW TOut)) (C : List Cn)
    (hperm : es.Perm (C.map ent)) (hN : (C.map Cn.pt).Nodup) (hC : ∀ c ∈ C, CnOk c) (left : Lit → Bool) (cnt : Nat) (hit : a.eval it = .pointer (some ⟨r, 0, none⟩)) (h : w.ranges Try.prog 47 outElem b r n (.map es) left cnt)
    (hDone : cnt = 0 → (∀ kl, left kl = false) → wpList Try.prog ops Q rest (a.put o.dst (.tuple #[.bool false])) w)
    (hMore : ∀ (c : Cn) (w' : World) (cnt' : Nat), c ∈ C → left (klOf c.pt) = true → w'.ranges Try.prog 47 outElem b r n (.map es) (fun z => left z && !z.sameKey (klOf c.pt)) cnt' → cnt' < cnt →
      w.grownBy w' (some r) → w'.heap.size = w.heap.size → (Instr.entry (.pointer (some ⟨r, 0, none⟩))).run Try.prog w' = .ok (.tuple #[.agg (pC c.pt).toArray, .agg (outC c.out).toArray]) w' →
      wpList Try.prog ops Q rest (a.put o.dst (.tuple #[.bool true, .agg (pC c.pt).toArray, .agg (outC c.out).toArray])) w') :
    wpList Try.prog ops Q (o :: rest) a w := by
  refine wpList_next_ranges w hg it hop 47 pt_law outElem (fun v : Value => v) (fun v : Value => v) (fun key _ _ => ⟨key, rfl⟩) (fun v _ _ => ⟨v, rfl⟩) b r n (.map es) left cnt hit h hDone ?_
  intro x v kl y w' cnt' hkey hleft hv hat hrg hlt hgr hsz hen
  obtain ⟨p, hp, e⟩ := ranges_key h hleft
  obtain ⟨c, hc, rfl⟩ := ent_at hperm hp
  subst e
  have hx : x = .agg (pC c.pt).toArray := pt_law.inj hkey (key_of (hC c hc).1)
  have hy : v = .agg (outC c.out).toArray := by
    obtain ⟨o', _, e1, e2⟩ := outElem_inv hv
    have h3 := hat (.held noOut)
    rw [e2, show (ent c).1 = klOf c.pt from rfl, map_at hperm hC hN hc] at h3
    have : c.out = o' := by simpa using h3
    rw [e1, this]
  subst hx
  subst hy
  exact hMore c w' cnt' hc hleft hrg hlt hgr hsz hen
/-- What is gathered so far. -/
def Alling (w : World) (k r : Nat) (es : List (Lit × DataW TOut)) (C : List Cn) (v : Value) (wr : World) : Prop :=
  ∃ left cnt, ∃ G : List Cn, wr.ranges Try.prog 47 outElem k r es.length (.map es) left cnt ∧ Below w.heap.size w wr ∧ r < wr.heap.size ∧ RowOwn wr (r + 1) 59 66 v (G.map cnC) ∧ G.Perm (C.filter fun c => !left (klOf c.pt))
theorem filter_one {C : List Cn} (hN : (C.map Cn.pt).Nodup) (f : Cn → Bool) {c : Cn} (hc : c ∈ C) (hf : f c = false) (g : Cn → Bool) (hg : ∀ d ∈ C, g d = (f d || decide (d.pt = c.pt))) : (C.filter g).Perm (C.filter f ++ [c]) := by
  induction C with
  | nil => cases hc
  | cons x C ih =>
    rw [List.map_cons, List.nodup_cons] at hN
    have hx := hg x (by simp)
    rcases List.mem_cons.1 hc with rfl | h1
    · have h2 : C.filter g = C.filter f := List.filter_congr fun d hd => by
        rw [hg d (by simp [hd])]
        have : d.pt ≠ c.pt := fun e => hN.1 (e ▸ mem_pt hd)
        simp [this]
      rw [hf] at hx
      rw [List.filter_cons, List.filter_cons, h2, hf, hx]
      simp only [Bool.false_or, decide_true, if_true, Bool.false_eq_true, if_false]
      exact (List.perm_append_comm (l₁ := [c]))
    · have hne : x.pt ≠ c.pt := fun e => hN.1 (e ▸ mem_pt h1)
      have hx' : g x = f x := by rw [hx]; simp [hne]
      have := ih hN.2 h1 fun d hd => hg d (by simp [hd])
      rw [List.filter_cons, List.filter_cons, hx']
      split
      · exact this.cons x
      · exact this
set_option maxRecDepth 100000 in
set_option maxHeartbeats 1000000 in
theorem all_any (w : World) (b k : Nat) (C : List Cn) (h : SetAt w b (some k) C) (hn : C.length ≤ 5000) :
    Calls Try.prog 20 #[.pointer (some ⟨b, 0, none⟩)] w fun e w' => ∃ v M, e = .returned v ∧ M.Perm C ∧ SortC M ∧ RowOwn w' w.heap.size 59 66 v (M.map cnC) ∧ Below w.heap.size w w' := by
  obtain ⟨es, hown, hperm, hN, hC⟩ := (h.2.2.2 k rfl).2
  have HOWN := hide hown
  have HP := hide hperm
  have HN := hide hN
  have HC := hide hC
  have HCN : Hid (C.length ≤ 5000) := hide hn
  have HZ := hide zero_cn
  have c0 := h.1
  have hkl : k < w.heap.size := hown.lt
  have HKL : Hid (k < w.heap.size) := hide hkl
  clear h hown hperm hN hC hn hkl
  go_enter Try.func20, Try.ntmps20
  go_wp2_with (first | (at_range; refine wpList_range_own _ rfl _ 65 rfl 47 50 pt_law Try.underlying65 outElem k es.length (.map es) rfl HOWN.out ?_; intro w0 hrg0 hg0 hs0))
  go_frame
  have HS : Hid (Alling w k w.heap.size es C (.slice none 0 0) w0) := hide ⟨_, _, [], hrg0, ⟨hg0.os, hg0.tape, hg0.output, hg0.size, fun i hi => hg0.block i hi (by simp)⟩, by omega, RowOwn.nil _ _ _ _, by
    rw [List.filter_eq_nil_iff.2]
    intro c hc
    have : Maps.has (.map es : DataW TOut) (klOf c.pt) = true := (map_has HP.out HC.out (HC.out c hc).1).2 (mem_pt hc)
    simp [this]⟩
  clear hrg0 hg0 hs0 c0
  generalize hr : w.heap.size = r at *
  have HR := hide hr
  clear hr
  go_loopw [3] (fun v wr => Alling w k r es C v wr) (fun _ wr => wr.rangeLeft k r)
  case atStart => exact HS.out
  case round =>
    clear HS
    obtain ⟨left, cnt, G, hrg, hB, hrl, hrow, hG⟩ := hrel
    have HRG := hide hrg
    have HB := hide hB
    have HRL := hide hrl
    have HROW := hide hrow
    have HG := hide hG
    clear hrg hB hrl hrow hG
    go_upto_region 6 with (first | (at_next; refine wp_next_co rfl _ rfl k r es.length es C HP.out HN.out HC.out left cnt rfl HRG.out ?_ ?_))
    · intro _ hl0
      have hGC : G.Perm C := by
        have h := HG.out
        rw [List.filter_eq_self.2 (fun c _ => by simp [hl0])] at h
        exact h
      have HGC := hide hGC
      have CS := hide (sort_any wr (r + 1) u3 G HROW.out (fun c hc => HC.out c (hGC.mem_iff.1 hc)) ((hGC.map Cn.pt).nodup_iff.2 HN.out) (by rw [hGC.length_eq]; have := HCN.out; omega))
      have HLT := hide HROW.out.lt
      clear hl0 hGC
      go_wp2_with (go_at_call 32; refine CS.out.mono ?_; rintro e w2 ⟨rfl, M, h1, h2, h3, h4⟩; have R := hide (show _ ∧ _ ∧ _ ∧ _ from ⟨h1, h2, h3, h4⟩); clear h1 h2 h3 h4)
      go_ret
      obtain ⟨h1, h2, h3, h4⟩ := R.out
      have hr := HR.out
      refine ⟨_, M, rfl, h1.trans HGC.out, h2, h3.low (by omega), HB.out.grown h4 (by have := HRL.out; omega) fun j hj => ?_⟩
      have := (HLT.out j hj).1
      omega
    · intro c w1 cnt1 hc hleft hrg1 hlt hg1 hs1 hen
      have HCC := hide hc
      have HLEFT := hide hleft
      have HRG1 := hide hrg1
      have HLTC := hide hlt
      have hco := HC.out c hc
      have HCO := hide hco
      have hrow1 : RowOwn w1 (r + 1) 59 66 u3 (G.map cnC) := HROW.out.move fun g hb hl => hg1.block g hl (by simp; omega)
      have HROW1 := hide hrow1
      have hb1 : Below w.heap.size w w1 := HB.out.grown hg1 (by have := HRL.out; have := HR.out; omega) (fun j hj => by cases hj; have := HR.out; omega)
      have HB1 := hide hb1
      have HS1 := hide hs1
      have HPL : Hid ((pC c.pt).length = 33) := hide (pC_length hco.1)
      have HXL : Hid ((outC c.out).length = 33) := hide (outC_length hco.2.2.1)
      have HIP : Hid ((Try.prog.info? 47).map (·.size) = some (pC c.pt).length) := hide (by rw [HPL.out]; exact info_pt)
      have HIX : Hid ((Try.prog.info? 50).map (·.size) = some (outC c.out).length) := hide (by rw [HXL.out]; exact info_out)
      have HP1 : Hid (∀ u ∈ pC c.pt, u.oneCell' = true) := hide (pC_one _)
      have HX1 : Hid (∀ u ∈ outC c.out, u.oneCell' = true) := hide (outC_one _)
      have HCNC : Hid (cnC c = pC c.pt ++ outC c.out) := hide (cnC_pt c)
      have HONE : Hid (∀ u ∈ cnC c, u.oneCell' = true) := hide (cnC_one c)
      have hta : ((w1.alloc (.cells #[.int .u8 0, .int .u8 0, .int .u8 0, .int .u8 0, .int .u8 0, .int .u8 0, .int .u8 0, .int .u8 0, .int .u8 0, .int .u8 0, .int .u8 0, .int .u8 0, .int .u8 0, .int .u8 0, .int .u8 0, .int .u8 0, .int .u8 0, .int .u8 0, .int .u8 0, .int .u8 0, .int .u8 0, .int .u8 0, .int .u8 0, .int .u8 0, .int .u8 0, .int .u8 0, .int .u8 0, .int .u8 0, .int .u8 0, .int .u8 0, .int .u8 0, .int .u8 0, .int .u32 0] 47)).alloc (.cells #[.int .u64 0, .int .u8 0, .int .u8 0, .int .u8 0, .int .u8 0, .int .u8 0, .int .u8 0, .int .u8 0, .int .u8 0, .int .u8 0, .int .u8 0, .int .u8 0, .int .u8 0, .int .u8 0, .int .u8 0, .int .u8 0, .int .u8 0, .int .u8 0, .int .u8 0, .int .u8 0, .int .u8 0, .int .u8 0, .int .u8 0, .int .u8 0, .int .u8 0, .int .u8 0, .int .u8 0, .int .u8 0, .int .u8 0, .int .u8 0, .int .u8 0, .int .u8 0, .int .u8 0] 50)).there w1.heap.size 0 (pC c.pt).length := by
        rw [HPL.out]
        exact there_on (p_there w1) (below_new _ _)
      have htb : ((w1.alloc (.cells #[.int .u8 0, .int .u8 0, .int .u8 0, .int .u8 0, .int .u8 0, .int .u8 0, .int .u8 0, .int .u8 0, .int .u8 0, .int .u8 0, .int .u8 0, .int .u8 0, .int .u8 0, .int .u8 0, .int .u8 0, .int .u8 0, .int .u8 0, .int .u8 0, .int .u8 0, .int .u8 0, .int .u8 0, .int .u8 0, .int .u8 0, .int .u8 0, .int .u8 0, .int .u8 0, .int .u8 0, .int .u8 0, .int .u8 0, .int .u8 0, .int .u8 0, .int .u8 0, .int .u32 0] 47)).alloc (.cells #[.int .u64 0, .int .u8 0, .int .u8 0, .int .u8 0, .int .u8 0, .int .u8 0, .int .u8 0, .int .u8 0, .int .u8 0, .int .u8 0, .int .u8 0, .int .u8 0, .int .u8 0, .int .u8 0, .int .u8 0, .int .u8 0, .int .u8 0, .int .u8 0, .int .u8 0, .int .u8 0, .int .u8 0, .int .u8 0, .int .u8 0, .int .u8 0, .int .u8 0, .int .u8 0, .int .u8 0, .int .u8 0, .int .u8 0, .int .u8 0, .int .u8 0, .int .u8 0, .int .u8 0] 50)).there (w1.heap.size + 1) 0 (outC c.out).length := by
        rw [HXL.out]
        have := o_there (w1.alloc (.cells #[.int .u8 0, .int .u8 0, .int .u8 0, .int .u8 0, .int .u8 0, .int .u8 0, .int .u8 0, .int .u8 0, .int .u8 0, .int .u8 0, .int .u8 0, .int .u8 0, .int .u8 0, .int .u8 0, .int .u8 0, .int .u8 0, .int .u8 0, .int .u8 0, .int .u8 0, .int .u8 0, .int .u8 0, .int .u8 0, .int .u8 0, .int .u8 0, .int .u8 0, .int .u8 0, .int .u8 0, .int .u8 0, .int .u8 0, .int .u8 0, .int .u8 0, .int .u8 0, .int .u32 0] 47))
        rw [alloc_size] at this
        exact this
      have HTA := hide hta
      have HTB := hide htb
      have HB2 : Hid (Below w1.heap.size w1 ((w1.alloc (.cells #[.int .u8 0, .int .u8 0, .int .u8 0, .int .u8 0, .int .u8 0, .int .u8 0, .int .u8 0, .int .u8 0, .int .u8 0, .int .u8 0, .int .u8 0, .int .u8 0, .int .u8 0, .int .u8 0, .int .u8 0, .int .u8 0, .int .u8 0, .int .u8 0, .int .u8 0, .int .u8 0, .int .u8 0, .int .u8 0, .int .u8 0, .int .u8 0, .int .u8 0, .int .u8 0, .int .u8 0, .int .u8 0, .int .u8 0, .int .u8 0, .int .u8 0, .int .u8 0, .int .u32 0] 47)).alloc (.cells #[.int .u64 0, .int .u8 0, .int .u8 0, .int .u8 0, .int .u8 0, .int .u8 0, .int .u8 0, .int .u8 0, .int .u8 0, .int .u8 0, .int .u8 0, .int .u8 0, .int .u8 0, .int .u8 0, .int .u8 0, .int .u8 0, .int .u8 0, .int .u8 0, .int .u8 0, .int .u8 0, .int .u8 0, .int .u8 0, .int .u8 0, .int .u8 0, .int .u8 0, .int .u8 0, .int .u8 0, .int .u8 0, .int .u8 0, .int .u8 0, .int .u8 0, .int .u8 0, .int .u8 0] 50))) := hide (below_on (below_new w1 _) (below_new _ _))
      clear hc hleft hrg1 hlt hco hrow1 hb1 hg1 hs1 hta htb
      generalize pC c.pt = P at *
      generalize outC c.out = X at *
      go_upto_region 7 with (first | (refine wp_store_row rfl 47 (.tmp 4) (.tmp 16) rfl w1.heap.size 0 P rfl rfl HTA.out HIP.out HP1.out ?_) | (refine wp_store_row rfl 50 (.tmp 5) (.tmp 17) rfl (w1.heap.size + 1) 0 X rfl rfl (there_apart HTB.out (by omega) _ _) HIX.out HX1.out ?_))
      clear hen
      generalize (w1.alloc (.cells #[.int .u8 0, .int .u8 0, .int .u8 0, .int .u8 0, .int .u8 0, .int .u8 0, .int .u8 0, .int .u8 0, .int .u8 0, .int .u8 0, .int .u8 0, .int .u8 0, .int .u8 0, .int .u8 0, .int .u8 0, .int .u8 0, .int .u8 0, .int .u8 0, .int .u8 0, .int .u8 0, .int .u8 0, .int .u8 0, .int .u8 0, .int .u8 0, .int .u8 0, .int .u8 0, .int .u8 0, .int .u8 0, .int .u8 0, .int .u8 0, .int .u8 0, .int .u8 0, .int .u32 0] 47)).alloc (.cells #[.int .u64 0, .int .u8 0, .int .u8 0, .int .u8 0, .int .u8 0, .int .u8 0, .int .u8 0, .int .u8 0, .int .u8 0, .int .u8 0, .int .u8 0, .int .u8 0, .int .u8 0, .int .u8 0, .int .u8 0, .int .u8 0, .int .u8 0, .int .u8 0, .int .u8 0, .int .u8 0, .int .u8 0, .int .u8 0, .int .u8 0, .int .u8 0, .int .u8 0, .int .u8 0, .int .u8 0, .int .u8 0, .int .u8 0, .int .u8 0, .int .u8 0, .int .u8 0, .int .u8 0] 50) = W2 at *
      have HRP : Hid (((W2.setCells w1.heap.size 0 P).setCells (w1.heap.size + 1) 0 X).rangeAt w1.heap.size 0 P) := hide (range_apart (World.rangeAt_setCells_same _ _ _ _ HTA.out) (by omega) _ _)
      have HRX : Hid (((W2.setCells w1.heap.size 0 P).setCells (w1.heap.size + 1) 0 X).rangeAt (w1.heap.size + 1) 0 X) := hide (World.rangeAt_setCells_same _ _ _ _ (there_apart HTB.out (by omega) _ _))
      have HB3 : Hid (Below w1.heap.size w1 ((W2.setCells w1.heap.size 0 P).setCells (w1.heap.size + 1) 0 X)) := hide (below_sets (by omega) _ _ _ (below_sets (Nat.le_refl _) _ _ _ HB2.out))
      clear HTA HTB HB2
      generalize (W2.setCells w1.heap.size 0 P).setCells (w1.heap.size + 1) 0 X = W3 at *
      try simp only [Act.put]
      have hz := HZ.out W3
      have hlp := HPL.out
      have hlx := HXL.out
      have hs2 := cn_size coinZ_size P hlp
      have hs3 := cn_built coinZ_size P X hlp hlx
      have HCX : Hid (cnC c = P ++ X) := HCNC
      have hlen : (P ++ X).length = 66 := by rw [List.length_append, hlp, hlx]
      have HLEN := hide hlen
      have HONE2 : Hid (∀ u ∈ P ++ X, u.oneCell' = true) := hide (by rw [← HCX.out]; exact HONE.out)
      have hb4 := below_new W3 (.cells (P ++ X).toArray 59)
      have HNEW := hide (range_new W3 (P ++ X) 59)
      have HROW4 := hide ((HROW1.out.move (w1 := W3) fun g _ hl => HB3.out.block g hl).move (w1 := W3.alloc (.cells (P ++ X).toArray 59)) fun g _ hl => hb4.block g hl)
      have HBW := hide (below_on (below_on HB1.out HB3.out) hb4)
      have hsz4 : w1.heap.size ≤ (W3.alloc (.cells (P ++ X).toArray 59)).heap.size := (below_on HB3.out hb4).size
      have hw4 : r + 1 ≤ (W3.alloc (.cells (P ++ X).toArray 59)).heap.size := by have := HRL.out; have := HS1.out; omega
      have HRG4 : Hid ((W3.alloc (.cells (P ++ X).toArray 59)).ranges Try.prog 47 outElem k r es.length (.map es) (fun z => left z && !z.sameKey (klOf c.pt)) cnt1) := hide (by
        have hb5 := below_on HB3.out hb4
        exact HRG1.out.kept (row := none) ⟨hb5.os, hb5.tape, hb5.output, hb5.size, fun i hi _ => hb5.block i hi⟩ (by simp) (by simp))
      have hgl : G.length ≤ C.length := by
        rw [HG.out.length_eq]
        exact List.length_filter_le _ _
      obtain ⟨v5, w5, hrun, hrow5, hgr, -⟩ := run_append_row (W3.alloc (.cells (P ++ X).toArray 59)) 30 59 30 _ 66 80 Try.underlying30 infoCn rfl (by omega) (by omega) (r + 1) u3 (G.map cnC) HROW4.out W3.heap.size (P ++ X) HNEW.out ⟨hlen, HONE2.out⟩ (by rw [List.length_map]; have := HCN.out; omega) hw4
      have hlt4 := HROW4.out.lt
      have hrg5 := HRG4.out.kept hgr (fun e => by have := (hlt4 k e.symm).1; have := HKL.out; omega) (fun e => by have := (hlt4 r e.symm).1; omega)
      have HRG5 := hide hrg5
      have R : Hid (Alling w k r es C v5 w5) := hide ⟨_, cnt1, G ++ [c], hrg5, HBW.out.grown hgr (by have := HR.out; omega) (fun j hj => by have := (hlt4 j hj).1; have := HR.out; omega), by have := hgr.size; omega, by
        rw [List.map_append, List.map_cons, List.map_nil, HCX.out]
        exact hrow5, by
        refine (HG.out.append_right [c]).trans (filter_one HN.out _ HCC.out (by simp [HLEFT.out]) _ fun d hd => ?_).symm
        have hk := kl_same (HC.out d hd).1 HCO.out.1
        by_cases e : d.pt = c.pt
        · simp [e, (kl_same HCO.out.1 HCO.out.1).2 rfl]
        · have : (klOf d.pt).sameKey (klOf c.pt) = false := by
            cases h : (klOf d.pt).sameKey (klOf c.pt) with
            | false => rfl
            | true => exact absurd (hk.1 h) e
          simp [e, this]⟩
      obtain ⟨va, vc, rfl, -, -⟩ := hrow5.row.form
      clear hb4 hsz4 hw4 hrow5 hgr hlt4 hrg5 hgl
      obtain ⟨nn, hnn⟩ : ∃ nn, nn = (List.map cnC G ++ [P ++ X]).length := ⟨_, rfl⟩
      rw [← hnn] at hrun R
      clear hnn
      generalize hgb : w1.heap.size = gb at *
      clear hgb
      go_wp2_with (first
        | (refine wpList_load_mid rfl 47 (.tmp 4) rfl gb 0 rfl P _ HRP.out Try.underlying47 rfl HIP.out ?_)
        | (refine wpList_load_mid rfl 50 (.tmp 5) rfl (gb + 1) 0 rfl X _ HRX.out Try.underlying50 rfl HIX.out ?_)
        | (refine wp_build_one rfl 30 59 (.tmp 21) rfl _ 66 80 Try.underlying30 infoCn (by omega) (by omega) (P ++ X) HLEN.out rfl ?_)
        | (at_builtin; refine wp_app rfl (.tmp 18) (.tmp 22) 30 rfl (v1 := u3) (v2 := .slice (some ⟨W3.heap.size, 0, none⟩) 1 1) (v := .slice va nn vc) (w' := w5) rfl rfl ?_ ?_; exact hrun))
      go_roundw
      case rel => first | exact R.out | ((repeat apply Exists.intro); exact ⟨R.out, rfl⟩)
      case measure =>
        rw [HRG5.out.left_eq, HRG.out.left_eq]
        exact HLTC.out

end Go.Proofs.Ytkemdfikcmgaaaa
