/-
  What frame.Put answers at this program where there is no body: a full row of 24 bytes.
-/
import Derived.Test.YtbhninaaeeoamabDoorFrPut
import Derived.Test.YtbhninaaeeoamabDoorFrBack
namespace Go.Proofs.YtbhninaaeeoamabDoor
open Go.RowKit

/-- 'append', of nothing onto a row that is full. -/
theorem wp_append_nil {w : World} {ops : Array Oper} {rest : List Oper} {o : Oper} {a : Act} {Q : Exit → Act → World → Prop} (hgd : o.guard = none) (s x : Operand)
    (ho : o.op = .call { callee := .builtin .append, args := #[s, x], argTypes := #[22, 22] })
    (b n : Nat) (hs : a.eval s = .slice (some ⟨b, 0, none⟩) n n) (hx : a.eval x = .slice none 0 0)
    (h : wpList Tryd.prog ops Q rest (a.put o.dst (.slice (some ⟨b, 0, none⟩) n n)) w) : wpList Tryd.prog ops Q (o :: rest) a w := by
  obtain ⟨i0, hi, hz0, hz1, hz2⟩ := info_parts infoB
  refine wpList_plain hgd fun K hK => ?_
  have hrun : (Builtin.append_ #[22, 22] o.type #[.slice (some ⟨b, 0, none⟩) n n, .slice none 0 0]).run Tryd.prog w = .ok (.slice (some ⟨b, 0, none⟩) n n) w := by
    simp [Builtin.append_, run_underlying Tryd.underlying22, sizeOf, typeInfo, hi, Builtin.lenOf, Builtin.firstCells, storeCells]
  unfold Oper.wp
  simp [execOp, ho, resolve, invoke, builtin, hs, hx, hrun, Result.andThen]
  exact hK _ _ h

/-- 'append', of bytes onto a row that is full: nothing old turns. -/
theorem wp_append_grown {w : World} {ops : Array Oper} {rest : List Oper} {o : Oper} {a : Act} {Q : Exit → Act → World → Prop} (hgd : o.guard = none) (s x : Operand)
    (ho : o.op = .call { callee := .builtin .append, args := #[s, x], argTypes := #[22, 22] })
    (base b : Nat) (l : List Int) (hs : a.eval s = .slice (some ⟨b, 0, none⟩) l.length l.length) (hA : Arr w b 0 .u8 l) (hbb : base ≤ b) (src : Value) (m : List Int) (hx : a.eval x = src) (hsrc : Bytes w src m)
    (hsz : l.length + m.length ≤ 1000000) (hb : base ≤ w.heap.size)
    (h : ∀ v' w', Mine w' base v' (l ++ m) → Below w.heap.size w w' → wpList Tryd.prog ops Q rest (a.put o.dst v') w') : wpList Tryd.prog ops Q (o :: rest) a w := by
  obtain ⟨i0, hi, hz0, hz1, hz2⟩ := info_parts infoB
  obtain ⟨ad, cap, rfl, hcap, hmax, hnone, hcell⟩ := hsrc
  have hnil : m = [] → Mine w base (.slice (some ⟨b, 0, none⟩) l.length l.length) (l ++ m) := by
    rintro rfl
    rw [List.append_nil]
    exact ⟨b, l.length, rfl, Nat.le_refl _, by omega, hbb, hA⟩
  cases ad with
  | none =>
    obtain rfl := hnone rfl
    obtain rfl : m = [] := List.length_eq_zero_iff.1 (by omega)
    refine wpList_plain hgd fun K hK => ?_
    have hrun : (Builtin.append_ #[22, 22] o.type #[.slice (some ⟨b, 0, none⟩) l.length l.length, .slice none 0 0]).run Tryd.prog w = .ok (.slice (some ⟨b, 0, none⟩) l.length l.length) w := by
      simp [Builtin.append_, run_underlying Tryd.underlying22, sizeOf, typeInfo, hi, Builtin.lenOf, Builtin.firstCells, storeCells]
    unfold Oper.wp
    simp [execOp, ho, resolve, invoke, builtin, hs, hx, hrun, Result.andThen]
    exact hK _ _ (h _ w (hnil rfl) (Below.refl _ _))
  | some ad =>
    refine wpList_append_arg w hgd s x 22 ho 5 i0 (.int .u8 0) 1 1 Tryd.underlying22 hi hz0 hz1 hz2 rfl (by decide) b 0 l.length l.length (vals .u8 l) hs (by simp [vals]) (fun j u hu => hA.1 j u hu) ad m.length cap (vals .u8 m) hx (by simp [vals]) ?_ ?_ ?_ (by unfold maxLen; omega) (by omega) ?_ ?_
    · intro j u hj
      have hjl : j < m.length := by
        have := (List.getElem?_eq_some_iff.1 hj).1
        rwa [vals_length] at this
      obtain ⟨b, off, e, hc⟩ := hcell (by omega)
      cases e
      have e2 : (⟨b, off, none⟩ : Addr).add j = ⟨b, off + j, none⟩ := by simp [Addr.add]
      rw [e2, hc j hjl, ← hj, vals_get .u8 m j hjl]
    · intro v hv
      simp only [vals, List.mem_map] at hv
      obtain ⟨z, _, rfl⟩ := hv
      rfl
    · intro hr j hj
      rw [vals_length] at hj
      omega
    · intro hr
      have hm : m = [] := List.length_eq_zero_iff.1 (by omega)
      subst hm
      exact h _ w (hnil rfl) (Below.refl _ _)
    · intro hr v' w' hown hgrow
      have hl : (vals .u8 l ++ vals .u8 m) = (l ++ m).map (Value.int .u8) := by simp [vals]
      have hO : Own w' w.heap.size v' (l ++ m) := by
        unfold Own
        rw [← hl, List.length_append]
        exact hown
      exact h v' w' ((hO.mine (by rw [List.length_append]; omega)).low hb) ((Below.refl w.heap.size w).grown hgrow (Nat.le_refl _) (fun k hk => by cases hk))


set_option maxRecDepth 100000 in
set_option maxHeartbeats 1000000 in
theorem fput_nil (w : World) (s : ByteArray) (hk : Ks w) (hs : s.size ≤ 9223372036854775807) (hn : namedL (strL s) = true) :
    Calls Tryd.prog 6 #[.string s, .slice none 0 0] w fun e w' => ∃ b : Nat, e = .returned (.tuple #[.slice (some ⟨b, 0, none⟩) 24 24, .int .i64 0]) ∧ w.heap.size ≤ b ∧ Arr w' b 0 .u8 (headL (strL s) 0 (chk [])) ∧ Below w.heap.size w w' := by
  have N := hide (named_any s w hs)
  have hna := named_all hn
  rw [strL_length] at hna
  have HO := hide (headOf_any w s (.slice none 0 0) [] (Bytes.nil w) hk (by omega) (by simp))
  have HL := hide (headL_length (c := strL s) (by rw [strL_length]; omega) 0 (chk []))
  change Hid (Calls Tryd.prog 11 #[.string s, .slice none 0 0] w fun e w' => e = .returned (.agg (vals .u8 (headL (strL s) 0 (chk []))).toArray) ∧ Below w.heap.size w w') at HO
  rw [hn] at N
  clear hk hn hna
  generalize headL (strL s) 0 (chk []) = H at *
  go_enter Tryd.func6, Tryd.ntmps6
  go_wp2_with fail
  refine N.out.mono ?_
  rintro e w' ⟨rfl, rfl⟩
  go_wp2_with fail
  refine HO.out.mono ?_
  rintro e w1 ⟨rfl, hbel1⟩
  have hh := head_new w1 H HL.out
  go_upto_region 6 with (refine wp_store_arr rfl 39 (.tmp 6) (.tmp 15) rfl _ 0 .u8 H rfl rfl 24 hh.2.2 info_24 HL.out ?_)
  have HB2 := hide (below_on hbel1 hh.1)
  have HA2 : Hid (Arr _ w1.heap.size 0 .u8 H) := hide hh.2.1
  have HG := hide hbel1.size
  clear hh hbel1
  generalize (w1.alloc (.cells #[.int .u8 0, .int .u8 0, .int .u8 0, .int .u8 0, .int .u8 0, .int .u8 0, .int .u8 0, .int .u8 0, .int .u8 0, .int .u8 0, .int .u8 0, .int .u8 0, .int .u8 0, .int .u8 0, .int .u8 0, .int .u8 0, .int .u8 0, .int .u8 0, .int .u8 0, .int .u8 0, .int .u8 0, .int .u8 0, .int .u8 0, .int .u8 0] 39)).setCells w1.heap.size 0 (vals .u8 H) = W2 at *
  generalize w1.heap.size = g at *
  go_wp2_with (at_builtin; refine wp_append_nil rfl (.tmp 16) (.tmp 17) rfl g 24 rfl rfl ?_)
  go_ret2
  exact ⟨g, rfl, HG.out, HA2.out, HB2.out⟩

end Go.Proofs.YtbhninaaeeoamabDoor
