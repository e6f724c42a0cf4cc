import PyProof.Rows.All
import Wide.All
import OpenK.AllK
import Wide.FinOn
import HandS.Deep
import HandS.Sort
import HandS.SortRule
import HandS.Defaults
import HandS.Gcd
import HandS.ExcIs
import PySem.Challenge.RW_slitstairs_k05_whole_texts_of_cards
import HandS.ForMost
import HandS.ForExc
import HandS.EndBits
import HandS.Wide
import HandS.Walk
import HandS.IsInst
import HandS.ExcInit
import HandS.ExcField
import HandS.OwnEq
import HandS.IterVal
import PyProof.FactsAll.str_ascii_iterator_1
import PyProof.FactsAll.tuple_iterator_1
import HandS.Style
import HandS.RaiseMore
import HandS.Property
import HandS.TryMany
import HandS.TryOnly
import HandS.ClsMeth
import HandS.MakeKwOnly
import HandS.FStr
import HandS.DictTup
import HandS.StrSplit
import HandS.Star
import HandS.MethStar
import HandS.TupLe
import KE.GoesMore
set_option Elab.async false
set_option linter.all false
set_option maxRecDepth 100000
set_option maxHeartbeats 4000000
namespace Sl
open PySem PySem.Spec PyProof.Rows L2 ItX
/-- the def st stands at f as the name x of the module -/
structure DefAt (K : PySem.W.Frag) (mg : Str → Option Value) (x : Str) (st : Stmt) (ps : List Str) (f : Addr) (fd : FuncData) : Prop where
  F : Fun K x x st f fd
  b : Binds K fd ps []
  g : mg x = some (.ref f)
theorem callD {X : Cx} {x : Str} {st : Stmt} {ps : List Str} {f : Addr} {fd : FuncData} {sp : Sp} {k j : Nat} {e : Expr} {es : List Expr} {p pos : Pos} {t : TA} (D : DefAt X.K X.mg x st ps f fd) (G : FnOk X.prog X.w X.K X.mg X.base CX0 k f fd ps sp) (hr : Room j X.A) (ha : PA X (e :: es) t)
    (hk : k ≤ j := by decide) (hg : Gl X x := by rfl) (hdb : (x == ("__debug__" : Str)) = false := by decide)
    (he : starEach (e :: es) X.env = (false, eval e X.env) :: starEach es X.env := by rfl) (hpl : (backTo pos (starEach es X.env)).any (·.1) = false := by rfl) :
    PE X (.Call (.Name x p) (e :: es) [] pos) (tCall sp [] E0 t) := pe_call G (hr.mono hk) hg D.g D.F.kp D.b .nil pass0 ha hdb he hpl
theorem cmul_l {i j : Int} (h : -18446744073709551616 < i ∧ i < 18446744073709551616) : CMul i j := .inl h
theorem cmul_r {i j : Int} (h : -18446744073709551616 < j ∧ j < 18446744073709551616) : CMul i j := .inr h
theorem cdiv {i j : Int} (h : 0 < j) (h2 : j < 1073741824) : CDiv i j := ⟨h, h2⟩
theorem same_but {a : Addr} {H H1 H2 : Hp} (s : Same H H1) (n : H a = none) (b : ∀ b o, b ≠ a → H1 b = some o → H2 b = some o) : Same H H2 := fun c o h => b c o (ne_of_none h n) (s c o h)
theorem same_new {H H1 : Hp} {a : Addr} {o : HO} (s : Same H H1) (n : H1 a = none) : Same H (upd H1 a o) := fun b u e => by
  rw [upd_ne (ne_of_none (s b u e) n)]
  exact s b u e
theorem same_free {H H' : Hp} {a : Addr} (s : Same H H') (n : H' a = none) : H a = none := s.free n
theorem cpow {i j : Int} (h1 : 0 ≤ j) (h2 : j ≤ 1000000) (h3 : i.natAbs < 2 ^ 64) : CPow i j := ⟨h1, h2, h3⟩
theorem szl {n : Nat} (h : n ≤ 1000) : n ≤ sizeLine := Nat.le_of_lt (small1000 h)
/-- the law's hand stands at a -/
def HandOk (H : Hp) (a : Addr) : Prop := ∃ (l : Addr) (cells : List Int) (pos pend tot : Int), H a = some (.lst [.ref l, .int pos, .int pend, .int tot]) ∧ H l = some (.lst (cells.map V.int)) ∧
  (0 ≤ pos ∧ pos ≤ 63) ∧ cells.length ≤ 63 ∧ (∀ c ∈ cells, 0 ≤ c) ∧ 0 ≤ pend ∧ (0 ≤ tot ∧ tot < 2147483629)
/-- all but a is as it was -/
def But (a : Addr) (H H' : Hp) : Prop := ∀ b o, b ≠ a → H b = some o → H' b = some o
theorem HandOk.mk {H H' : Hp} {a l : Addr} {cells : List Int} {pos pend tot : Int} (hal : a ≠ l) (el : H l = some (.lst (cells.map V.int))) (b : But a H H') (ea : H' a = some (.lst [.ref l, .int pos, .int pend, .int tot])) (hp : 0 ≤ pos ∧ pos ≤ 63) (hl : cells.length ≤ 63) (hc : ∀ c ∈ cells, 0 ≤ c) (hpe : 0 ≤ pend) (ht : 0 ≤ tot ∧ tot < 2147483629) : HandOk H' a :=
  ⟨l, cells, pos, pend, tot, ea, b l _ (Ne.symm hal) el, hp, hl, hc, hpe, ht⟩
theorem But.refl (a : Addr) (H : Hp) : But a H H := fun _ _ _ h => h
theorem But.trans {a : Addr} {H H1 H2 : Hp} (x : But a H H1) (y : But a H1 H2) : But a H H2 := fun b o n h => y b o n (x b o n h)
theorem But.upd {a : Addr} {H H1 : Hp} {o : HO} (x : But a H H1) : But a H (upd H1 a o) := fun b u n h => by
  rw [upd_ne n]
  exact x b u n h
/-! texts by their codes -/
def sOf (l : List Nat) : Str := ⟨l.toArray⟩
theorem sOf_tl (x : Str) : sOf x.cps.toList = x := rfl
theorem sOf_inj {a b : List Nat} : sOf a = sOf b ↔ a = b := ⟨fun h => by
  have h2 := congrArg (fun s : Str => s.cps.toList) h
  simpa [sOf] using h2, fun h => by rw [h]⟩
theorem sOf_len (l : List Nat) : (sOf l).length = l.length := by simp [sOf, Str.length]
theorem sOf_app (a b : List Nat) : sOf a ++ sOf b = sOf (a ++ b) := TL.ext_tl (by rw [TL.tl_append]; simp [sOf, TL.tl])
theorem sOf_count (l : List Nat) (c : Nat) : Txt.count (sOf l) (sOf [c]) = (l.count c : Int) := by
  show Txt.count (sOf l) ⟨#[c]⟩ = _
  rw [PyProof.Rows.count_cnt]
  show PyProof.Rows.cnt c l = _
  induction l with
  | nil => rfl
  | cons x r ih =>
    rw [PyProof.Rows.cnt_cons, ih, List.count_cons]
    by_cases h : x = c
    · subst h; simp; omega
    · simp [h]
theorem sOf_take (l : List Nat) (k : Nat) (h : k ≤ l.length) : cutS (sOf l) none (some (k : Int)) = sOf (l.take k) := by
  unfold cutS
  rw [sOf_len, HT.sIx_nat, HT.sIx_none, Nat.min_eq_left h]
  simp [sOf]
theorem sOf_drop (l : List Nat) (k : Nat) (h : k ≤ l.length) : cutS (sOf l) (some (k : Int)) none = sOf (l.drop k) := by
  unfold cutS
  rw [sOf_len, HT.sIx_nat, HT.sIx_none, Nat.min_eq_left h]
  have e : (l.drop k).take (l.length - k) = l.drop k := List.take_of_length_le (by rw [List.length_drop]; exact Nat.le_refl _)
  simp [sOf, e]
theorem str_d : ("d" : Str) = sOf [100] := by decide +kernel
theorem str_o : ("o" : Str) = sOf [111] := by decide +kernel
theorem str_e : ("" : Str) = sOf [] := by decide +kernel
/-! rules of texts, by their codes -/
theorem pe_s {X : Cx} (l : List Nat) {x : Str} {j : Nat} {pos : Pos} (h : x = sOf l) : PE X (.Constant (.str x) j pos) (tC (.str (sOf l))) := by
  subst h
  exact pe_str
def rAddS : R2 := fun x y H Q => ∃ a b : List Nat, x = .str (sOf a) ∧ y = .str (sOf b) ∧ a.length + b.length ≤ 1000 ∧ Q (.str (sOf (a ++ b))) H
theorem op_addS {X : Cx} : OpR X (binaryOp .Add) rAddS := fun pins s σ H x y v u Q I rx ry ⟨a, b, ex, ey, hl, q⟩ =>
  op_add_str pins s σ H x y v u Q I rx ry ⟨_, _, ex, ey, by rw [sOf_len, sOf_len]; exact szl hl, by rw [sOf_app]; exact q⟩
def rLenS1 : List V → Hp → VK → Prop := fun xs H Q => ∃ l : List Nat, xs = [.str (sOf l)] ∧ l.length ≤ 1000 ∧ Q (.int l.length) H
theorem call_lenS {X : Cx} : CallR X (.builtin "len") rLenS1 := fun pins s σ H xs us Q I r ⟨l, e, hl, q⟩ =>
  call_len_str pins s σ H xs us Q I r ⟨_, e, by rw [sOf_len]; exact szl hl, by rw [sOf_len]; exact q⟩
def rCountS : V → List V → Hp → VK → Prop := fun x xs H Q => ∃ (l : List Nat) (c : Nat), x = .str (sOf l) ∧ xs = [.str (sOf [c])] ∧ Q (.int (l.count c : Nat)) H
theorem mt_countS {X : Cx} : MtR X "str.count" rCountS := fun pins s σ H x xs v us Q I rx rs ⟨l, c, ex, es, q⟩ =>
  mt_count pins s σ H x xs v us Q I rx rs ⟨_, _, ex, es, by rw [sOf_count]; exact q⟩
/-- a list's slice -/
def cutN (l : List Nat) (lo hi : Option Int) : List Nat := (l.drop (HT.sIx l.length 0 lo)).take (HT.sIx l.length l.length hi - HT.sIx l.length 0 lo)
theorem cutS_cutN (l : List Nat) (lo hi : Option Int) : cutS (sOf l) lo hi = sOf (cutN l lo hi) := by
  unfold cutS cutN
  rw [sOf_len]
  rfl
theorem cutN_take (l : List Nat) {i : Int} (h0 : 0 ≤ i) : cutN l none (some i) = l.take i.toNat := by
  obtain ⟨k, rfl⟩ := Int.eq_ofNat_of_zero_le h0
  unfold cutN
  rw [show (some ((k : Nat) : Int)) = some (k : Int) from rfl, HT.sIx_nat, HT.sIx_none, Nat.sub_zero, List.drop_zero, Int.toNat_natCast]
  by_cases h : k ≤ l.length
  · rw [Nat.min_eq_left h]
  · rw [Nat.min_eq_right (by omega), List.take_length, List.take_of_length_le (by omega)]
theorem cutN_drop (l : List Nat) {i : Int} (h0 : 0 ≤ i) : cutN l (some i) none = l.drop i.toNat := by
  obtain ⟨k, rfl⟩ := Int.eq_ofNat_of_zero_le h0
  unfold cutN
  rw [show (some ((k : Nat) : Int)) = some (k : Int) from rfl, HT.sIx_nat, HT.sIx_none, Int.toNat_natCast]
  by_cases h : k ≤ l.length
  · rw [Nat.min_eq_left h]
    exact List.take_of_length_le (by rw [List.length_drop]; exact Nat.le_refl _)
  · rw [Nat.min_eq_right (by omega), List.drop_length, List.drop_eq_nil_of_le (by omega), List.take_nil]
def rSlS2 : V → Option Int → Option Int → Hp → VK → Prop := fun x lo hi H Q => ∃ l : List Nat, x = .str (sOf l) ∧ l.length ≤ 1000 ∧ Q (.str (sOf (cutN l lo hi))) H
theorem sl_S {X : Cx} : SlR X rSlS2 := fun pins s σ H x v vl vu lo hi sl Q I rx hs pl pu ⟨l, ex, hl, q⟩ =>
  sl_str pins s σ H x v vl vu lo hi sl Q I rx hs pl pu ⟨_, ex, by rw [sOf_len]; exact szl hl, by rw [cutS_cutN]; exact q⟩
def rIxS2 : R2 := fun x y H Q => ∃ (l : List Nat) (i : Int) (c : Nat), x = .str (sOf l) ∧ y = .int i ∧ l.length ≤ 1000 ∧ atI l i = some c ∧ Q (.str (sOf [c])) H
theorem ix_S {X : Cx} : IxR X rIxS2 := fun value slice pins s σ H x y v u Q I rx ry ⟨l, i, c, ex, ey, hl, ha, q⟩ hs =>
  ix_str value slice pins s σ H x y v u Q I rx ry ⟨_, i, c, ex, ey, by rw [sOf_len]; exact szl hl, ha, q⟩ hs
theorem walk_S {l : List Nat} : Walk (Its (sOf l)) l.length (fun _ => True) (fun i H v H' => H' = H ∧ ∃ c, l[i]? = some c ∧ v = .str (sOf [c])) := by
  refine ⟨fun i H hi _ => ?_, fun H _ => ?_, fun i H x H' _ _ y => ?_⟩
  · show i < (sOf l).cps.size
    simpa [sOf] using hi
  · show (sOf l).cps.size ≤ l.length
    simp [sOf]
  · obtain ⟨h1, c, h2, h3⟩ := y
    refine ⟨h1, c, ?_, h3⟩
    simpa [sOf] using h2
theorem str_eq {a b : List Nat} : (V.str (sOf a) = V.str (sOf b)) ↔ a = b := ⟨fun h => sOf_inj.mp (V.str.inj h), fun h => by rw [h]⟩
/-! ### words -/
/-- a word of size n: as many d (100) as o (111), never more o than d ahead -/
structure Good (l : List Nat) (n : Nat) : Prop where
  len : l.length = 2 * n
  cnt : l.count 100 = n
  ltr : ∀ c ∈ l, c = 100 ∨ c = 111
  ahead : ∀ k, k ≤ l.length → (l.take k).count 111 ≤ (l.take k).count 100
theorem ltr_count : ∀ {l : List Nat}, (∀ c ∈ l, c = 100 ∨ c = 111) → l.count 100 + l.count 111 = l.length
  | [], _ => rfl
  | x :: r, h => by
    have ih := ltr_count (l := r) fun c hc => h c (List.mem_cons_of_mem _ hc)
    rw [List.count_cons, List.count_cons, List.length_cons]
    rcases h x List.mem_cons_self with e | e <;> subst e <;> simp <;> omega
/-- what a row of steps has of a word while it is made -/
structure Part (l : List Nat) (n : Nat) : Prop where
  cnt : l.count 100 ≤ n
  ltr : ∀ c ∈ l, c = 100 ∨ c = 111
  ahead : ∀ k, k ≤ l.length → (l.take k).count 111 ≤ (l.take k).count 100
theorem Part.le {l : List Nat} {n : Nat} (p : Part l n) : l.count 111 ≤ l.count 100 := by
  have h := p.ahead l.length (Nat.le_refl _)
  rwa [List.take_length] at h
theorem Part.nil (n : Nat) : Part [] n := ⟨Nat.zero_le _, fun _ h => by simp at h, fun k _ => by simp⟩
theorem Part.snoc {l : List Nat} {n c : Nat} (p : Part l n) (h : (c = 100 ∧ l.count 100 < n) ∨ (c = 111 ∧ l.count 111 < l.count 100)) : Part (l ++ [c]) n := by
  refine ⟨?_, ?_, fun k hk => ?_⟩
  · rcases h with ⟨e, h⟩ | ⟨e, h⟩ <;> subst e <;> simp [List.count_append] <;> have := p.cnt <;> omega
  · intro x hx
    rcases List.mem_append.mp hx with hx | hx
    · exact p.ltr x hx
    · rw [List.mem_singleton] at hx
      rcases h with ⟨e, h⟩ | ⟨e, h⟩
      · exact .inl (hx.trans e)
      · exact .inr (hx.trans e)
  · by_cases hk2 : k ≤ l.length
    · rw [List.take_append_of_le_length hk2]
      exact p.ahead k hk2
    · have e : (l ++ [c]).take k = l ++ [c] := List.take_of_length_le (by rw [List.length_append] at hk ⊢; simp at hk ⊢; omega)
      rw [e, List.count_append, List.count_append]
      have := p.le
      rcases h with ⟨e, h⟩ | ⟨e, h⟩ <;> subst e <;> simp <;> omega
theorem Part.good {l : List Nat} {n : Nat} (p : Part l n) (h : l.length = 2 * n) : Good l n := by
  have h1 := p.le
  have h2 := ltr_count p.ltr
  have h3 := p.cnt
  exact ⟨h, by omega, p.ltr, p.ahead⟩
theorem cdivw {m : Int} (h : 0 < m) (h2 : m < 1152921504606846976) : CDivW 0 m := wide_div (i := 0) (b := 60) h (by omega) (by decide) (by decide)
theorem count_sign (c x : Nat) : [c].count x = if c = x then 1 else 0 := by
  rw [List.count_cons, List.count_nil]
  by_cases h : c = x
  · simp [h]
  · simp [h]
theorem cnt_d (l : List Nat) : (((l ++ [100]).count 100 : Nat) : Int) - ((l ++ [100]).count 111 : Nat) = (l.count 100 : Int) - l.count 111 + 1 := by
  rw [List.count_append, List.count_append, count_sign, count_sign]
  simp
  omega
theorem cnt_o (l : List Nat) : (((l ++ [111]).count 100 : Nat) : Int) - ((l ++ [111]).count 111 : Nat) = (l.count 100 : Int) - l.count 111 - 1 := by
  rw [List.count_append, List.count_append, count_sign, count_sign]
  simp
  omega
/-! rules that name the written part by itself (within comprehensions) -/
section
variable {X : Cx} {K : PySem.W.Frag}
theorem op_inK (h : X.K = K) : OpR X (compareOp .In) (rIn K false) := h ▸ op_in_seq
theorem op_notInK (h : X.K = K) : OpR X (compareOp .NotIn) (rIn K true) := h ▸ op_notIn_seq
theorem ix_listK (h : X.K = K) : IxR X (rIxL K) := h ▸ ix_list
theorem ix_tupK (h : X.K = K) : IxR X (rIxT K) := h ▸ ix_tup
theorem call_isiTK (h : X.K = K) : CallR X (.builtin "isinstance") (rIsiT K) := h ▸ call_isiT
/-- a list's or a tuple's item -/
def rIxQ (K : PySem.W.Frag) : R2 := fun x y H Q => rIxL K x y H Q ∨ rIxT K x y H Q
theorem ix_Q (h : X.K = K) : IxR X (rIxQ K) := h ▸ fun value slice pins s σ H x y v u Q I rx ry q hs => q.elim (fun q => ix_list value slice pins s σ H x y v u Q I rx ry q hs) (fun q => ix_tup value slice pins s σ H x y v u Q I rx ry q hs)
theorem call_isiK' (h : X.K = K) : CallR X (.builtin "isinstance") (rIsi K) := h ▸ call_isi
def rLenQ (K : PySem.W.Frag) : List V → Hp → VK → Prop := fun xs H Q => ∃ p ys, xs = [.ref p] ∧ (SqL K H p ys ∨ SqT K H p ys) ∧ Q (.int ys.length) H
theorem call_lenQ (h : X.K = K) : CallR X (.builtin "len") (rLenQ K) := h ▸ call_len_seq
def rListQ (K : PySem.W.Frag) : List V → Hp → VK → Prop := fun xs H Q => ∃ p ys, xs = [.ref p] ∧ (SqL K H p ys ∨ SqT K H p ys) ∧ ∀ l, H l = none → Q (.ref l) (upd H l (.lst ys))
theorem call_listQ (h : X.K = K) : CallR X (.type "list") (rListQ K) := h ▸ call_list_of
end
theorem Same.toBut {a : Addr} {H H1 H2 : Hp} (s : Same H H1) (n : H a = none) (b : But a H1 H2) : Same H H2 := same_but s n b
theorem But.new {a p : Addr} {H H1 : Hp} {o : HO} (b : But a H H1) (n : H1 p = none) : But a H (L2.upd H1 p o) := fun c u nc h => by
  rw [upd_ne (ne_of_none (b c u nc h) n)]
  exact b c u nc h
theorem inV_do (c : Nat) : inV (.str (sOf [c])) [.str (sOf [100]), .str (sOf [111])] = (c == 100 || c == 111) := by
  have h : ∀ d : Nat, eqV (.str (sOf [d])) (.str (sOf [c])) = (c == d) := fun d => by
    show ((sOf [d] == sOf [c]) : Bool) = (c == d)
    by_cases e : c = d
    · subst e; simp
    · have e2 : ¬ sOf [d] = sOf [c] := fun z => e (by have := sOf_inj.mp z; simp at this; exact this.symm)
      rw [beq_eq_false_iff_ne.mpr e2, beq_eq_false_iff_ne.mpr e]
  unfold inV
  rw [List.any_cons, List.any_cons, List.any_nil, h, h, Bool.or_false]
/-! exceptions that leave a call in a try: a wish that does not look at the slots -/
theorem takes_len {X : Cx} {W : WX} (t : Takes X W) : Takes X (fun c d σ H => σ.length = X.N.length → W c d σ H) := fun u s' ⟨a, B, sI, pins, σ, H, cls, d, e, I, nb, up, sky, na, os, ag, q⟩ =>
  t u s' ⟨a, B, sI, pins, σ, H, cls, d, e, I, nb, up, sky, na, os, ag, q I.len⟩
/-- what is asked first, then the block -/
def tGiven (p : Prop) (t : TS) : TS := fun D σ H => p ∧ t D σ H
theorem pss_given {X : Cx} {b : List Stmt} {t : TS} {p : Prop} (h : p → PSs X b t) : PSs X b (tGiven p t) := ⟨fun pins s σ H D I q => (h q.1).run pins s σ H D I q.2⟩
/-- the wish W is granted wherever E holds (n slots) -/
def Wish (n : Nat) (E : XK) (W : WX) : Prop := ∀ cls d σ H, σ.length = n → E cls d H → W cls d σ H
theorem passW {X : Cx} {W : WX} {E : XK} (tk : Takes X W) (h : Wish X.N.length E W) : Passes (L2.CX X.prog X.w) X E := fun pins σ H s e s' I c =>
  passes_call (takes_len tk) (fun cls d σ H q l => h cls d σ H l q) pins σ H s e s' I c
/-- what an exception class with the one field holds in the written part -/
structure ExC (K : PySem.W.Frag) (mg : Str → Option Value) (x : Str) (C : Addr) (i : Addr) : Prop where
  g : mg x = some (.ref C)
  oex : OexC K C
  xf : XfC K C
  ini : PySem.W.findIn K (.ref C) "__init__" = some (some (.ref i))
  tI : PySem.W.typeIn K (.ref i) = some (.type "function")
  me : PySem.W.exmOne K (.ref C) (.ref C) = some true
/-- a method (or __init__) as it stands -/
structure MetAt (K : PySem.W.Frag) (x qual : Str) (st : Stmt) (ps : List Str) (f : Addr) (fd : FuncData) : Prop where
  F : Fun K x qual st f fd
  b : Binds K fd ps []
theorem upd_del_same {H1 H2 : Hp} {a d : Addr} {fs : List (Str × V)} (na : H1 a = none) (nd : H1 d = none) (k : ∀ b o, b ≠ a → H1 b = some o → H2 b = some o) : Same H1 (upd (del H2 a) d (.xd fs)) := fun b o e => by
  rw [upd_ne (ne_of_none e nd), del_ne (ne_of_none e na)]
  exact k b o (ne_of_none e na) e

/-! ### objects of own classes: len, ==, !=, str by their own methods -/
section
variable {X : Cx} {pins : List (Addr × Obj)} {σ : L2.St} {H : Hp} {s : Shared} {CX : CXT} {n : Nat} {f C : Addr} {fd : FuncData} {ps : List Str} {sp : Sp} {E : XK} {vs : List V} {us : List Value} {Q : VK} {A1 : Around}
theorem run_own (sb : Sub X n A1) (F : FnOk X.prog X.w X.K X.mg X.base CX n f fd ps sp) (hb : L2.Binds X.K fd ps []) (hx : Passes CX X E) (I : Inv X pins σ H s) (r : Vals vs us) (h : sp vs H Q E) :
    wpAny (model X.prog X.w) A1 (call (.ref f) us) (EP X pins σ Q) X.xe s := by
  have e := I.env0
  have e0 : Env0 X.prog X.w X.K X.mg X.base A1 X.stack s H := ⟨sb.fr.trans e.frames, e.mod, e.bs, e.bsz, e.funs, e.frf, e.hok, e.bare⟩
  have hl : us.length = ps.length := r.length.symm.trans (F.len _ _ _ _ h)
  have bd := hb s us I.kIn (by rw [List.append_nil]; exact hl)
  rw [List.append_nil] at bd
  refine wpAny_call (codeAny_mono (F.run A1 X.stack s H ⟨us, []⟩ us vs Q E sb.room e0 bd r h) fun res s' hq => ?_)
  cases res with
  | error er => exact hx pins σ H s er s' I hq
  | ok fl =>
    cases fl with
    | ret w => exact I.after hq
    | next => exact hq.elim
    | brk => exact hq.elim
    | cont => exact hq.elim
/-- the same of a def that raises nothing, whatever is wished of errors -/
theorem run_own0 {EE : Value → Shared → Prop} (sb : Sub X n A1) (F : FnOk X.prog X.w X.K X.mg X.base CX0 n f fd ps sp) (hb : L2.Binds X.K fd ps []) (I : Inv X pins σ H s) (r : Vals vs us) (h : sp vs H Q E0) :
    wpAny (model X.prog X.w) A1 (call (.ref f) us) (EP X pins σ Q) EE s := by
  have e := I.env0
  have e0 : Env0 X.prog X.w X.K X.mg X.base A1 X.stack s H := ⟨sb.fr.trans e.frames, e.mod, e.bs, e.bsz, e.funs, e.frf, e.hok, e.bare⟩
  have hl : us.length = ps.length := r.length.symm.trans (F.len _ _ _ _ h)
  have bd := hb s us I.kIn (by rw [List.append_nil]; exact hl)
  rw [List.append_nil] at bd
  refine wpAny_call (codeAny_mono (F.run A1 X.stack s H ⟨us, []⟩ us vs Q E0 sb.room e0 bd r h) fun res s' hq => ?_)
  cases res with
  | error er => exact hq.elim
  | ok fl =>
    cases fl with
    | ret w => exact I.after hq
    | next => exact hq.elim
    | brk => exact hq.elim
    | cont => exact hq.elim
theorem val_ref {a : Addr} : L2.RelV (V.ref a) (Value.ref a) := rfl
/-- a method that the class has as a def -/
structure OwnM (K : PySem.W.Frag) (C : Addr) (m : Str) (f : Addr) : Prop where
  at_ : PySem.W.findIn K (.ref C) m = some (some (.ref f))
  fn : PySem.W.isFn K (.ref f) = true
def rLenOwn (C : Addr) (sp : Sp) (E : XK) : List V → Hp → VK → Prop := fun xs H Q => ∃ a dx fs, xs = [.ref a] ∧ H a = some (.ins C dx fs) ∧ sp [.ref a] H (fun v H' => ∃ k : Nat, v = .int k ∧ k < 1000000 ∧ Q (.int k) H') E
theorem call_lenOwn (M : OwnM X.K C "__len__" f) (F : FnOk X.prog X.w X.K X.mg X.base CX n f fd ps sp) (hb : L2.Binds X.K fd ps []) (hx : Passes CX X E) (hr : Room (n + 1) X.A) : CallR X (.builtin "len") (rLenOwn C sp E) := by
  intro pins s σ H xs us Q I r h
  obtain ⟨a, dx, fs, rfl, ha, h⟩ := h
  obtain ⟨u, rfl, ru⟩ := r.one
  cases ru
  obtain ⟨mA, J, _⟩ := ins_get I.hok ha
  obtain ⟨od, J, _⟩ := J.look
  obtain ⟨m, hF⟩ := I.fr
  refine PySem.W.len_K hF I.ok.mod.kin J M.at_ M.fn (wpAny_mono (run_own (Sub.in1 ⟨hr, rfl⟩) F hb hx I (.cons val_ref .nil) h) (fun v s' q => ?_) fun _ _ z => z)
  obtain ⟨w, H', I', rw', k, rfl, hk, q⟩ := q
  obtain ⟨t, rfl⟩ := rw'
  exact ⟨⟨by omega, by omega⟩, .int k, H', I'.tok _, ⟨_, rfl⟩, q⟩
def rStrOwn (C : Addr) (sp : Sp) (E : XK) : List V → Hp → VK → Prop := fun xs H Q => ∃ a dx fs, xs = [.ref a] ∧ H a = some (.ins C dx fs) ∧ sp [.ref a] H (fun v H' => ∃ z : Str, v = .str z ∧ Q (.str z) H') E
theorem call_strOwn (M : OwnM X.K C "__str__" f) (F : FnOk X.prog X.w X.K X.mg X.base CX n f fd ps sp) (hb : L2.Binds X.K fd ps []) (hx : Passes CX X E) (hr : Room (n + 2) X.A) : CallR X (.type "str") (rStrOwn C sp E) := by
  intro pins s σ H xs us Q I r h
  obtain ⟨a, dx, fs, rfl, ha, h⟩ := h
  obtain ⟨u, rfl, ru⟩ := r.one
  cases ru
  obtain ⟨mA, J, _⟩ := ins_get I.hok ha
  obtain ⟨od, J, _⟩ := J.look
  have sb : Sub X n X.A.in1.in1 := Sub.in1 (Sub.in1 (⟨hr, rfl⟩ : Sub X (n + 2) X.A))
  refine PySem.W.kso_call sb.room.units0 I.kIn J M.at_ M.fn (wpAny_mono (run_own sb F hb hx I (.cons val_ref .nil) h) (fun v s' q => ?_) fun _ _ z => z)
  obtain ⟨w, H', I', rw', z, rfl, q⟩ := q
  obtain ⟨t, rfl⟩ := rw'
  exact ⟨.str z, H', I', ⟨_, rfl⟩, q⟩
/-- what may stand at the right of an own ==: a text, an instance of the same class -/
inductive Oth (C : Addr) (H : Hp) : V → Prop where
  | str (z : Str) : Oth C H (.str z)
  | ins {b dx : Addr} {fs : List (Str × V)} (h : H b = some (.ins C dx fs)) : Oth C H (.ref b)
def rEqOwn (neg : Bool) (C : Addr) (sp : Sp) (E : XK) : R2 := fun x y H Q => ∃ a dx fs, x = .ref a ∧ H a = some (.ins C dx fs) ∧ Oth C H y ∧ sp [.ref a, y] H (fun v H' => ∃ b : Bool, v = .bl b ∧ Q (.bl (if neg then !b else b)) H') E
theorem op_eqOwn (M : OwnM X.K C "__eq__" f) (hs : PySem.W.subIn X.K (.type "str") (.ref C) = some false) (F : FnOk X.prog X.w X.K X.mg X.base CX n f fd ps sp) (hb : L2.Binds X.K fd ps []) (hx : Passes CX X E) (hr : Room n X.A) :
    OpR X (compareOp .Eq) (rEqOwn false C sp E) := by
  intro pins s σ H x y v u Q I rx ry h
  obtain ⟨a, dx, fs, rfl, ha, oth, h⟩ := h
  cases rx
  obtain ⟨mA, J, _⟩ := ins_get I.hok ha
  obtain ⟨od, J, _⟩ := J.look
  obtain ⟨m, hF⟩ := I.fr
  have back : wpAny (model X.prog X.w) X.A (call (.ref f) [.ref a, u]) (PySem.W.CmpBack (EP X pins σ Q)) X.xe s := by
    refine wpAny_mono (run_own (⟨hr, rfl⟩ : Sub X n X.A) F hb hx I (.cons val_ref (.cons ry .nil)) h) (fun w s' q => ?_) fun _ _ z => z
    obtain ⟨z, H', I', rz, b, rfl, q⟩ := q
    cases rz
    exact ⟨.bl b, H', I', rfl, q⟩
  show wpAny (model X.prog X.w) X.A (richCompare .Eq (.ref a) u) (EP X pins σ Q) X.xe s
  cases oth with
  | str z =>
    obtain ⟨t, rfl⟩ := ry
    exact PySem.W.cmp_K (op := .Eq) (tb := .type "str") hr.units0 hF I.ok.mod.kin J (.of_pure rfl) (by simp [PySem.W.notFirst, hs]) M.at_ M.fn back
  | ins hb2 =>
    cases ry
    obtain ⟨mB, J', _⟩ := ins_get I.hok hb2
    obtain ⟨od', J', _⟩ := J'.look
    exact PySem.W.cmp_K (op := .Eq) (tb := .ref C) hr.units0 hF I.ok.mod.kin J J'.type (by simp [PySem.W.notFirst]) M.at_ M.fn back
/-- != where the class has an own == alone -/
structure NeC (K : PySem.W.Frag) (C : Addr) : Prop where
  at_ : PySem.W.findIn K (.ref C) "__ne__" = some (some (.builtin "object.__ne__"))
  up : PySem.W.mroIn K C (.type "object") = some true
theorem ne_here {M : Model} {A : Around} {E : Value → Shared → Prop} {s : Shared} {K : PySem.W.Frag} {x : Addr} {ox : Obj} {od : Option Obj} {args : List Value} {Q : Option Value → Shared → Prop} (N : NeC K C) (hK : K.In s.heap) (J : PySem.W.InstAt s.heap x ox C od)
    (h : wpAny M A (call (.builtin "object.__ne__") (.ref x :: args)) (fun v => Q (some v)) E s) : wpAny M A (callSpecialIfBound? (.ref x) "__ne__" args) Q E s := by
  simp only [callSpecialIfBound?, bindSpecialIfBound?]
  refine wpAny_holding (wpAny_bind (wpAny_bind (wpAny_bind (J.type.here ((PySem.W.looks_findIn hK N.at_).here ?_)))))
  refine wpAny_bind (wpAny_askSetting (wpAny_ite ?_))
  have fin : wpAny M A (call (.builtin "object.__ne__") ([.ref x] ++ args) >>= fun v => pure (some v)) Q E s := wpAny_bind (wpAny_mono h (fun v s' z => wpAny_pure z) fun _ _ z => z)
  have bd : bindSpecial (.builtin "object.__ne__") (.ref x) = pure (.builtin "object.__ne__", [.ref x]) := PySem.F.slot_object_ne.bind _
  split
  · exact wpAny_bind (wpAny_of_eq bd (wpAny_pure (by exact fin)))
  · exact wpAny_tryCatch (wpAny_bind (wpAny_of_eq bd (wpAny_pure (by exact fin))))
theorem op_neOwn (M : OwnM X.K C "__eq__" f) (N : NeC X.K C) (hs : PySem.W.subIn X.K (.type "str") (.ref C) = some false) (F : FnOk X.prog X.w X.K X.mg X.base CX n f fd ps sp) (hb : L2.Binds X.K fd ps []) (hx : Passes CX X E) (hr : Room (n + 1) X.A) :
    OpR X (compareOp .NotEq) (rEqOwn true C sp E) := by
  intro pins s σ H x y v u Q I rx ry h
  obtain ⟨a, dx, fs, rfl, ha, oth, h⟩ := h
  cases rx
  obtain ⟨mA, J, _⟩ := ins_get I.hok ha
  obtain ⟨od, J, _⟩ := J.look
  obtain ⟨m, hF⟩ := I.fr
  have sb : Sub X n X.A.in1 := Sub.in1 ⟨hr, rfl⟩
  have back : wpAny (model X.prog X.w) X.A.in1 (call (.ref f) [.ref a, u]) (fun v s' => ∃ b, v = .bool b ∧ EP X pins σ Q (.bool (!b)) s') X.xe s := by
    refine wpAny_mono (run_own sb F hb hx I (.cons val_ref (.cons ry .nil)) h) (fun w s' q => ?_) fun _ _ z => z
    obtain ⟨z, H', I', rz, b, rfl, q⟩ := q
    cases rz
    exact ⟨b, rfl, .bl (!b), H', I', rfl, q⟩
  have one : wpAny (model X.prog X.w) X.A (tryCompare (.ref a) "__ne__" u) (fun r s' => ∃ v, r = some v ∧ EP X pins σ Q v s') X.xe s := by
    unfold tryCompare
    refine wpAny_bind (ne_here N I.kIn J (wpAny_call (codeAny_call_builtin PySem.F.slot_object_ne.plain PySem.F.cmpEntry_ne (PySem.W.check_slot PySem.F.cmpKind_ne PySem.F.cmpSplit_ne (J.type.andThen (PySem.W.looks_mroIn I.kIn N.up)) (PySem.F.cmpArgs_ne _ _) ?_))))
    unfold Builtin.«object.__ne__»
    refine wpAny_bind (m := slotArgs "__ne__" 1 _) (wpAny_pure ?_)
    refine wpAny_bind (wpAny_cRoomFor sb.room.units0 ?_)
    refine wpAny_bind (m := callSpecialIfBound? (.ref a) (Str.ofString "__eq__") [u]) (PySem.W.ifBound_K I.kIn J M.at_ M.fn (wpAny_mono back (fun r s' q => ?_) fun _ _ z => z))
    obtain ⟨b, rfl, q⟩ := q
    exact wpAny_bind (wpAny_truthy_bool (wpAny_pure (wpAny_pure ⟨_, rfl, q⟩)))
  obtain ⟨tb, hT, hn⟩ : ∃ tb, PySem.W.Looks (model X.prog X.w) s.heap (typeOf u) tb ∧ (tb = .ref C ∨ tb = .type "str") := by
    cases oth with
    | str z =>
      obtain ⟨t, rfl⟩ := ry
      exact ⟨_, .of_pure rfl, .inr rfl⟩
    | ins hb2 =>
      cases ry
      obtain ⟨mB, J', _⟩ := ins_get I.hok hb2
      obtain ⟨od', J', _⟩ := J'.look
      exact ⟨_, J'.type, .inl rfl⟩
  show wpAny (model X.prog X.w) X.A (richCompare .NotEq (.ref a) u) (EP X pins σ Q) X.xe s
  unfold richCompare
  simp only [oneThing_ref]
  refine wpAny_holding (wpAny_bind (wpAny_cRoomFor (hr.mono (Nat.le_succ n)).units0 ?_))
  refine wpAny_bind (J.type.here (wpAny_bind (hT.here ?_)))
  rcases hn with rfl | rfl
  · rw [if_neg (by simp)]
    refine wpAny_bind (wpAny_pure ?_)
    simp only [Bool.false_eq_true, if_false]
    refine wpAny_bind (wpAny_mono one (fun r s' ⟨v, e, q⟩ => ?_) fun _ _ z => z)
    subst e
    exact wpAny_pure q
  · rw [if_pos (by rfl)]
    refine wpAny_bind ((PySem.W.looks_subIn I.kIn hs).here ?_)
    simp only [Bool.false_eq_true, if_false]
    refine wpAny_bind (wpAny_mono one (fun r s' ⟨v, e, q⟩ => ?_) fun _ _ z => z)
    subst e
    exact wpAny_pure q
end

/-! ### the iteration over an object of an own class whose __iter__ gives the iterator of a field -/
/-- the same heap, with n empty places behind it -/
def pad (h : Heap) (n : Nat) : Heap := { h with objs := h.objs ++ Array.replicate n ⟨.none, none, .freed, #[]⟩ }
theorem pad_size (h : Heap) (n : Nat) : (pad h n).objs.size = h.objs.size + n := by simp [pad]
theorem pad_get (h : Heap) (n : Nat) (b : Addr) : (pad h n).get? b = h.get? b := by
  unfold Heap.get? pad
  by_cases hb : b < h.objs.size
  · rw [Array.getElem?_append_left hb]
  · rw [Array.getElem?_append_right (Nat.le_of_not_lt hb), Array.getElem?_eq_none (Nat.le_of_not_lt hb), Array.getElem?_replicate]
    by_cases h2 : b - h.objs.size < n
    · rw [if_pos h2]
    · rw [if_neg h2]
theorem pad_mod {K : PySem.W.Frag} {mg : Str → Option Value} {h : Heap} (n : Nat) (m : Mod K mg h) : Mod K mg (pad h n) := by
  have k : ∀ b o, h.get? b = some o → (pad h n).get? b = some o := fun b o e => (pad_get h n b).trans e
  obtain ⟨mb, h1, h2⟩ := m.blt
  exact ⟨m.kin.keeps k, m.glob.keeps k, ⟨mb, h1.keeps k, h2⟩, m.nolimit.keeps k⟩
theorem pad_funs {h base : Heap} (n : Nat) : ∀ {l : List Env}, h.FunFrames base l → h.FunFrames (pad base n) l
  | [], _ => trivial
  | _ :: _, ⟨hk, ⟨L, o, hf, hn, ho, hd⟩, hr⟩ => ⟨hk, ⟨L, o, hf, (pad_get base n L).trans hn, ho, hd⟩, pad_funs n hr⟩
/-- iterators as they are tracked -/
def ItSO (it : Addr) (x : Str) : HO := .ext fun h => ∃ ty t, (ty = "str_ascii_iterator" ∨ ty = "str_iterator") ∧ h.IsStrIter it ty x t 0
def ItTO (it l : Addr) : HO := .ext fun h => h.IsTupleIter it l 0
theorem itSO_ok {P : Program} {w : World} {H : Hp} {h : Heap} {it : Addr} {x : Str} (e : ∃ ty t, (ty = "str_ascii_iterator" ∨ ty = "str_iterator") ∧ h.IsStrIter it ty x t 0) : ObjOk P w H h it (ItSO it x) := by
  refine ⟨e, ?_, ?_⟩
  · obtain ⟨ty, t, _, o, ho, _⟩ := e
    exact ⟨o, ho⟩
  · rintro h1 h2 ⟨ty, t, hy, o, ho, r⟩ k
    exact ⟨ty, t, hy, o, k o ho, r⟩
theorem itTO_ok {P : Program} {w : World} {H : Hp} {h : Heap} {it l : Addr} (e : h.IsTupleIter it l 0) : ObjOk P w H h it (ItTO it l) := by
  refine ⟨e, ?_, ?_⟩
  · obtain ⟨o, ho, _⟩ := e
    exact ⟨o, ho⟩
  · rintro h1 h2 ⟨o, ho, r⟩ k
    exact ⟨o, k o ho, r⟩
section
variable {X : Cx}
def rIterS (n : Nat) : List V → Hp → VK → Prop := fun xs H Q => ∃ x : Str, xs = [.str x] ∧ ∀ it, H it = none → n ≤ it → Q (.ref it) (upd H it (ItSO it x))
def rIterT (K : PySem.W.Frag) (n : Nat) : List V → Hp → VK → Prop := fun xs H Q => ∃ (l : Addr) (zs : List V), xs = [.ref l] ∧ SqT K H l zs ∧ ∀ it, H it = none → n ≤ it → Q (.ref it) (upd H it (ItTO it l))
theorem iter_call {M : Model} {prog : Program} {w : World} {A : Around} {E : Value → Shared → Prop} {s : Shared} {v : Value} {Q : Value → Shared → Prop} (h : wpAny (model prog w) A.in1 (pyIter v) Q E s) : wpAny (model prog w) A (call (.builtin "iter") [v]) Q E s := by
  refine Calls.call_function_entry (by decide +kernel) (by decide +kernel) PySem.W.kdk_entry_iter (PySem.W.kdk_args_iter _) ?_
  unfold Builtin.«iter»
  refine wpAny_bind (m := someArgs "iter" 1 2 _) (wpAny_of_eq (a := [v]) (by first | rfl | kernel_rfl!) ?_)
  show wpAny _ _ (pyIter v >>= _) _ _ _
  exact wpAny_bind (wpAny_mono h (fun r s' q => wpAny_pure ⟨_, rfl, q⟩) fun _ _ z => z)
theorem call_iterS : CallR X (.builtin "iter") (rIterS X.base.objs.size) := by
  intro pins s σ H xs us Q I r h
  obtain ⟨x, rfl, q⟩ := h
  obtain ⟨u, rfl, ru⟩ := r.one
  obtain ⟨t, rfl⟩ := ru
  have nb : X.base.objs.size ≤ s.heap.objs.size := Nat.le_trans I.ok.bsz I.sz
  refine iter_call (M := model X.prog X.w) ?_
  cases ha : x.cps.all (· < 128)
  · exact wpAny_pyIter_wide ha ⟨.ref s.heap.objs.size, _, I.laid (t' := s.toks) (fun b o e => Heap.get?_push_of_some _ e) (Nat.le_refl _) (itSO_ok ⟨_, t, .inr rfl, _, Heap.get?_push_size _ rfl, rfl, rfl⟩), rfl, q _ (I.hok.fresh (Nat.le_refl _)) nb⟩
  · exact wpAny_pyIter_ascii ha ⟨.ref s.heap.objs.size, _, I.laid (t' := s.toks) (fun b o e => Heap.get?_push_of_some _ e) (Nat.le_refl _) (itSO_ok ⟨_, t, .inl rfl, _, Heap.get?_push_size _ rfl, rfl, rfl⟩), rfl, q _ (I.hok.fresh (Nat.le_refl _)) nb⟩
theorem call_iterT : CallR X (.builtin "iter") (rIterT X.K X.base.objs.size) := by
  intro pins s σ H xs us Q I r h
  obtain ⟨l, zs, rfl, hq, q⟩ := h
  obtain ⟨u, rfl, ru⟩ := r.one
  cases ru
  have nb : X.base.objs.size ≤ s.heap.objs.size := Nat.le_trans I.ok.bsz I.sz
  obtain ⟨its, rv, pl, hz⟩ := I.tuple hq
  refine iter_call (M := model X.prog X.w) ?_
  exact wpAny_pyIter_tuple (show s.heap.IsTuple l its.toArray from pl) ⟨.ref s.heap.objs.size, _, I.laid (t' := s.toks) (fun b o e => Heap.get?_push_of_some _ e) (Nat.le_refl _) (itTO_ok ⟨_, Heap.get?_push_size _ rfl, rfl, rfl⟩), rfl, q _ (I.hok.fresh (Nat.le_refl _)) nb⟩
end
section
variable {X : Cx} {pins : List (Addr × Obj)} {σ : L2.St} {H : Hp} {s : Shared} {CX : CXT} {n : Nat} {f C : Addr} {fd : FuncData} {ps : List Str} {sp : Nat → Sp} {E : XK} {vs : List V} {us : List Value} {Q : VK} {A1 : Around}
/-- run_own at a base as large as the heap that stands -/
theorem run_pad (sb : Sub X n A1) (F : ∀ base : Heap, FnOk X.prog X.w X.K X.mg base CX n f fd ps (sp base.objs.size)) (hb : L2.Binds X.K fd ps []) (hx : Passes CX X E) (I : Inv X pins σ H s) (r : Vals vs us) (h : sp s.heap.objs.size vs H Q E) :
    wpAny (model X.prog X.w) A1 (call (.ref f) us) (EP X pins σ Q) X.xe s := by
  have e := I.env0
  have hz : X.base.objs.size ≤ s.heap.objs.size := e.bsz
  have F' := F (pad X.base (s.heap.objs.size - X.base.objs.size))
  rw [pad_size, Nat.add_sub_cancel' hz] at F'
  have e0 : Env0 X.prog X.w X.K X.mg (pad X.base (s.heap.objs.size - X.base.objs.size)) A1 X.stack s H :=
    ⟨sb.fr.trans e.frames, pad_mod _ e.mod, fun b o q => e.bs b o ((pad_get _ _ b).symm.trans q), by rw [pad_size, Nat.add_sub_cancel' hz]; exact Nat.le_refl _, pad_funs _ e.funs, e.frf, e.hok, e.bare⟩
  have hl : us.length = ps.length := r.length.symm.trans (F'.len _ _ _ _ h)
  have bd := hb s us I.kIn (by rw [List.append_nil]; exact hl)
  rw [List.append_nil] at bd
  refine wpAny_call (codeAny_mono (F'.run A1 X.stack s H ⟨us, []⟩ us vs Q E sb.room e0 bd r h) fun res s' hq => ?_)
  cases res with
  | error er => exact hx pins σ H s er s' I hq
  | ok fl =>
    cases fl with
    | ret w => exact I.after hq
    | next => exact hq.elim
    | brk => exact hq.elim
    | cont => exact hq.elim
/-- the promise of such an __iter__, over a text | a tuple in the field fld -/
def spItS (C : Addr) (fld : Str) (n : Nat) : Sp := fun vs H Q _ => ∃ (a dx : Addr) (fs : List (Str × V)) (x : Str), vs = [.ref a] ∧ H a = some (.ins C dx fs) ∧ fs.lookup fld = some (.str x) ∧ ∀ it, H it = none → n ≤ it → Q (.ref it) (upd H it (ItSO it x))
def spItT (K : PySem.W.Frag) (C : Addr) (fld : Str) (n : Nat) : Sp := fun vs H Q _ => ∃ (a dx l : Addr) (fs : List (Str × V)) (zs : List V), vs = [.ref a] ∧ H a = some (.ins C dx fs) ∧ fs.lookup fld = some (.ref l) ∧ SqT K H l zs ∧ ∀ it, H it = none → n ≤ it → Q (.ref it) (upd H it (ItTO it l))
theorem drop_upd {H : Hp} {a : Addr} {o : HO} (h : H a = none) : dropH (upd H a o) a = H := by
  funext b
  by_cases hb : b = a
  · rw [hb, dropH_same, h]
  · rw [dropH_ne hb, upd_ne hb]
/-- the walk's start, over a text -/
theorem pit_S {tg : Expr} {R : It → Hp → Prop} {a dx : Addr} {fs : List (Str × V)} {fld : Str} {x : Str} (M : OwnM X.K C "__iter__" f) (hr : Room n X.A) (F : ∀ base : Heap, FnOk X.prog X.w X.K X.mg base CX n f fd ps (spItS C fld base.objs.size)) (hb : L2.Binds X.K fd ps []) (hx : Passes CX X E)
    (I : Inv X pins σ H s) (ha : H a = some (.ins C dx fs)) (hl : fs.lookup fld = some (.str x)) (hR : R (Its x) H) : wpAny (model X.prog X.w) X.A (pyIter (.ref a)) (PIE X pins σ tg R) X.xe s := by
  obtain ⟨mA, J, _⟩ := ins_get I.hok ha
  obtain ⟨od, J, _⟩ := J.look
  obtain ⟨m, hF⟩ := I.fr
  refine PySem.W.owit_iter hF I.ok.mod.kin J M.at_ M.fn (wpAny_mono (run_pad (⟨hr, rfl⟩ : Sub X n X.A) F hb hx I (.cons val_ref .nil) (Q := fun v H' => ∃ it, v = .ref it ∧ H it = none ∧ s.heap.objs.size ≤ it ∧ H' = upd H it (ItSO it x)) ⟨a, dx, fs, x, rfl, ha, hl, fun it n1 n2 => ⟨it, rfl, n1, n2, rfl⟩⟩) (fun v s' q => ?_) fun _ _ z => z)
  obtain ⟨w, H', I', rw', it, rfl, hn, hz, rfl⟩ := q
  cases rw'
  have he : upd H it (ItSO it x) it = some (ItSO it x) := upd_same
  have he' := he
  unfold ItSO at he'
  obtain ⟨⟨ty, t, hy, st⟩, _⟩ : (∃ ty t, (ty = "str_ascii_iterator" ∨ ty = "str_iterator") ∧ s'.heap.IsStrIter it ty x t 0) ∧ _ := (show ObjOk X.prog X.w _ s'.heap it (ItSO it x) from I'.hok it _ he)
  have hT : s'.TypeIs (.ref it) ty := let ⟨o, ho, hc, _⟩ := st; ⟨o, ho, hc⟩
  have D := inv_drop I' he'
  rw [drop_upd hn] at D
  have fin : PIE X pins σ tg R (.ref it) s' := by
    refine ⟨it, [it], _, _, H, rfl, D, turn_str it x t ty hy, st, fun b hb2 => ?_, hR⟩
    have e1 : b = it := by simpa using hb2
    subst e1
    have q := inv_fp I' he (Nat.le_trans I.sz hz)
    rwa [drop_upd hn] at q
  unfold PySem.W.OwitIt
  rcases hy with rfl | rfl
  · exact wpAny_specialOf hT PySem.F.slot_str_ascii_iterator_next.lookup fin
  · exact wpAny_specialOf hT PySem.F.slot_str_iterator_next.lookup fin
/-- for x in e, [.. for x in e]: e an object whose text fld is walked -/
def iOwnS (C : Addr) (fld : Str) (te : TE) : TI := fun σ H R => te σ H fun v H1 => ∃ a dx fs x, v = .ref a ∧ H1 a = some (.ins C dx fs) ∧ fs.lookup fld = some (.str x) ∧ R (Its x) H1
theorem pi_ownS {tg e : Expr} {te : TE} {fld : Str} (M : OwnM X.K C "__iter__" f) (hr : Room n X.A) (F : ∀ base : Heap, FnOk X.prog X.w X.K X.mg base CX n f fd ps (spItS C fld base.objs.size)) (hb : L2.Binds X.K fd ps []) (hx : Passes CX X E) (he : PE X e te) : PI X tg e (iOwnS C fld te) := by
  refine ⟨fun pins s σ H R I h => ?_⟩
  refine thn (he.run pins s σ H _ I h) fun v s1 ⟨y, H1, I1, r1, a, dx, fs, x, ey, ha, hl, q⟩ => ?_
  subst ey
  cases r1
  exact pit_S M hr F hb hx I1 ha hl q
/-- the walk's start, over a tuple -/
theorem pit_T {tg : Expr} {R : It → Hp → Prop} {a dx : Addr} {fs : List (Str × V)} {fld : Str} {l : Addr} {zs : List V} (M : OwnM X.K C "__iter__" f) (hr : Room n X.A) (F : ∀ base : Heap, FnOk X.prog X.w X.K X.mg base CX n f fd ps (spItT X.K C fld base.objs.size)) (hb : L2.Binds X.K fd ps []) (hx : Passes CX X E)
    (I : Inv X pins σ H s) (ha : H a = some (.ins C dx fs)) (hl : fs.lookup fld = some (.ref l)) (hq : SqT X.K H l zs) (hR : R (Itt X.K l) H) : wpAny (model X.prog X.w) X.A (pyIter (.ref a)) (PIE X pins σ tg R) X.xe s := by
  obtain ⟨mA, J, _⟩ := ins_get I.hok ha
  obtain ⟨od, J, _⟩ := J.look
  obtain ⟨m, hF⟩ := I.fr
  refine PySem.W.owit_iter hF I.ok.mod.kin J M.at_ M.fn (wpAny_mono (run_pad (⟨hr, rfl⟩ : Sub X n X.A) F hb hx I (.cons val_ref .nil) (Q := fun v H' => ∃ it, v = .ref it ∧ H it = none ∧ s.heap.objs.size ≤ it ∧ H' = upd H it (ItTO it l)) ⟨a, dx, l, fs, zs, rfl, ha, hl, hq, fun it n1 n2 => ⟨it, rfl, n1, n2, rfl⟩⟩) (fun v s' q => ?_) fun _ _ z => z)
  obtain ⟨w, H', I', rw', it, rfl, hn, hz, rfl⟩ := q
  cases rw'
  have he : upd H it (ItTO it l) it = some (ItTO it l) := upd_same
  have he' := he
  unfold ItTO at he'
  obtain ⟨st, _⟩ : s'.heap.IsTupleIter it l 0 ∧ _ := (show ObjOk X.prog X.w _ s'.heap it (ItTO it l) from I'.hok it _ he)
  have hT : s'.TypeIs (.ref it) "tuple_iterator" := let ⟨o, ho, hc, _⟩ := st; ⟨o, ho, hc⟩
  have D := inv_drop I' he'
  rw [drop_upd hn] at D
  have fin : PIE X pins σ tg R (.ref it) s' := by
    refine ⟨it, [it], _, _, H, rfl, D, turn_tuple l it, st, fun b hb2 => ?_, hR⟩
    have e1 : b = it := by simpa using hb2
    subst e1
    have q := inv_fp I' he (Nat.le_trans I.sz hz)
    rwa [drop_upd hn] at q
  unfold PySem.W.OwitIt
  exact wpAny_specialOf hT PySem.F.slot_tuple_iterator_next.lookup fin
/-- the same, its tuple fld is walked -/
def iOwnT (K : PySem.W.Frag) (C : Addr) (fld : Str) (te : TE) : TI := fun σ H R => te σ H fun v H1 => ∃ a dx l fs zs, v = .ref a ∧ H1 a = some (.ins C dx fs) ∧ fs.lookup fld = some (.ref l) ∧ SqT K H1 l zs ∧ R (Itt K l) H1
theorem pi_ownT {tg e : Expr} {te : TE} {fld : Str} (M : OwnM X.K C "__iter__" f) (hr : Room n X.A) (F : ∀ base : Heap, FnOk X.prog X.w X.K X.mg base CX n f fd ps (spItT X.K C fld base.objs.size)) (hb : L2.Binds X.K fd ps []) (hx : Passes CX X E) (he : PE X e te) : PI X tg e (iOwnT X.K C fld te) := by
  refine ⟨fun pins s σ H R I h => ?_⟩
  refine thn (he.run pins s σ H _ I h) fun v s1 ⟨y, H1, I1, r1, a, dx, l, fs, zs, ey, ha, hl, hq, q⟩ => ?_
  subst ey
  cases r1
  exact pit_T M hr F hb hx I1 ha hl hq q
end

/-! ### list(text), list(o) of an object whose text is walked -/
def signs (x : Str) : List V := x.cps.toList.map fun c => V.str ⟨#[c]⟩
theorem signs_vals {x : Str} {acc : Array Value} (h : ItemsOf (SignAt x) acc x.cps.size) : Vals (signs x) acc.toList := by
  obtain ⟨hz, hp⟩ := h
  have gen : ∀ (cs : List Nat) (vs : List Value), cs.length = vs.length → (∀ (j : Nat) (v : Value), vs[j]? = some v → ∃ (c : Nat) (u : Tok), cs[j]? = some c ∧ v = Value.str ⟨#[c]⟩ u) → Vals (cs.map fun c => V.str ⟨#[c]⟩) vs := by
    intro cs
    induction cs with
    | nil =>
      intro vs hl _
      cases vs with
      | nil => exact .nil
      | cons v r => simp at hl
    | cons c r ih =>
      intro vs hl hv
      cases vs with
      | nil => simp at hl
      | cons v r2 =>
        obtain ⟨c', u, e1, e2⟩ := hv 0 v rfl
        have e3 : c = c' := by simpa using e1
        subst e3
        exact .cons ⟨u, e2⟩ (ih r2 (by simpa using hl) fun j w hj => by simpa using hv (j + 1) w (by simpa using hj))
  refine gen x.cps.toList acc.toList (by simpa using hz.symm) fun j v hj => ?_
  obtain ⟨c, u, e1, e2⟩ := hp j v (by simpa using hj)
  exact ⟨c, u, by simpa using e1, e2⟩
def rListStr : List V → Hp → VK → Prop := fun xs H Q => ∃ x : Str, xs = [.str x] ∧ x.length ≤ 1000 ∧ ∀ q, H q = none → Q (.ref q) (upd H q (.lst (signs x)))
theorem signs_len (x : Str) : (signs x).length = x.length := by simp [signs, Str.length]
section
variable {X : Cx}
theorem call_listStr (hc : X.calm = true) : CallR X (.type "list") rListStr := by
  intro pins s σ H xs us Q I r h
  obtain ⟨x, rfl, hx, q⟩ := h
  obtain ⟨u, rfl, ru⟩ := r.one
  obtain ⟨t, rfl⟩ := ru
  refine call_list_str (I.ok.hd hc) x t (fun h' tk acc c k e hi => ?_) (szl hx)
  refine ⟨.ref s.heap.objs.size, _, I.laid (t' := tk) (o := .lst (signs x)) k (Nat.le_refl _) ⟨by rw [signs_len]; exact szl hx, acc.toList, c, signs_vals hi, by simpa using e⟩, rfl, q _ (I.hok.fresh (Nat.le_refl _))⟩
end
section
variable {X : Cx} {pins : List (Addr × Obj)} {σ : L2.St} {H : Hp} {s : Shared} {CX CX' : CXT} {n n' : Nat} {f f' C : Addr} {fd fd' : FuncData} {ps ps' : List Str} {E E' : XK} {Q : VK} {A1 : Around} {fld : Str} {x : Str} {a dx : Addr} {fs : List (Str × V)}
/-- what an own __len__ says of an object with the field fld: its text's length -/
def spLenS (C : Addr) (fld : Str) : Sp := fun vs H Q _ => ∃ (a dx : Addr) (fs : List (Str × V)) (x : Str), vs = [.ref a] ∧ H a = some (.ins C dx fs) ∧ fs.lookup fld = some (.str x) ∧ x.length ≤ 1000 ∧ Q (.int x.length) H
theorem own_hint {EE : Value → Shared → Prop} (M : OwnM X.K C "__len__" f') (sb : Sub X (n' + 1) A1) (F : FnOk X.prog X.w X.K X.mg X.base CX0 n' f' fd' ps' (spLenS C fld)) (hb : L2.Binds X.K fd' ps' [])
    (I : Inv X pins σ H s) (ha : H a = some (.ins C dx fs)) (hl : fs.lookup fld = some (.str x)) (hz : x.length ≤ 1000) {R : Bool → Shared → Prop} (h : ∀ b s', Inv X pins σ H s' → R b s') : wpAny (model X.prog X.w) A1 (Builtin.List.listLengthHint (.ref a)) R EE s := by
  obtain ⟨mA, J, _⟩ := ins_get I.hok ha
  obtain ⟨od, J, _⟩ := J.look
  obtain ⟨m, hF⟩ := I.fr
  unfold Builtin.List.listLengthHint
  refine wpAny_bind (wpAny_bind (J.type.here ((PySem.W.looks_findIn I.kIn M.at_).here ?_)))
  refine PySem.W.KFB.if_not rfl ?_
  refine PySem.W.KFB.if_so rfl ?_
  refine wpAny_bind (wpAny_rule ?_)
  refine wpAny_bind (wpAny_attempt ?_)
  refine PySem.W.len_K hF I.ok.mod.kin J M.at_ M.fn (wpAny_mono (run_own0 sb.in1 F hb I (.cons val_ref .nil) (Q := fun v H' => v = .int x.length ∧ H' = H) ⟨a, dx, fs, x, rfl, ha, hl, hz, rfl, rfl⟩) (fun v s' q => ?_) fun _ _ z => z)
  obtain ⟨w, H', I', rw', rfl, rfl⟩ := q
  obtain ⟨t, rfl⟩ := rw'
  refine ⟨⟨by omega, by omega⟩, ?_⟩
  refine wpAny_bind (wpAny_pure ?_)
  refine PySem.W.KFB.if_not (by rw [Int.toNat_natCast]; exact notLongL (szl hz)) ?_
  exact wpAny_pure (h _ _ (I'.tok _))
/-- the items of the iterator at it go into the empty list at q -/
theorem own_fill {it q : Addr} {t : Tok} {ty : String} {Rs : Result → Shared → Prop} (hcalm : X.A.handled = none) (I : Inv X pins σ H s) (hq : H q = some (.lst [])) (fp : FpOk X pins H it) (hy : ty = "str_ascii_iterator" ∨ ty = "str_iterator") (st : s.heap.IsStrIter it ty x t 0) (hx : x.length ≤ 1000)
    (hA : A1.handled = none) (h : ∀ s', Inv X pins σ (upd H q (.lst (signs x))) s' → Rs (.ok (.ret .none)) s') : codeAny (model X.prog X.w) A1 (.builtin "list.extend.loop" ⟨[.ref q, .ref it, .none], []⟩) Rs s := by
  have hqi : q ≠ it := fun z => by
    have := fp.1
    rw [← z, hq] at this
    cases this
  obtain ⟨z, its, k, r, hl, e⟩ := I.lstM hq
  cases r
  have W : WalksS X.prog X.w A1.in1 it [it] [it] (fun a b => b = a) x.cps.size (SignAt x) (fun i s => s.heap.IsStrIter it ty x t i) := by
    rcases hy with rfl | rfl
    · exact (Walks.strAscii (A := A1.in1) hA it x t).toS
    · exact (Walks.strWide (A := A1.in1) hA it x t).toS
  have hn : x.cps.size ≤ sizeLine := szl hx
  refine codeAny_extend_loopS W hn q (fun z => hqi (List.mem_singleton.mp z)) .none x.cps.size 0 s #[] k rfl (Nat.zero_le _) st e (ItemsOf.nil _) fun s' acc c hm hS hacc => h s' ?_
  have es := Moved.eq_with hm
  obtain ⟨f0, f1, f2, f3, f4, f5⟩ := fp
  have o2 : ∀ b, b ≠ q → (s'.heap.update q fun _ => ({ cls := .type "list", data := .seq #[] k } : Obj)).get? b = s'.heap.get? b := fun b hb => Heap.get?_update_other s'.heap _ (Ne.symm hb)
  have oq : (s'.heap.update q fun _ => ({ cls := .type "list", data := .seq #[] k } : Obj)).get? q = some { cls := .type "list", data := .seq #[] k } := Heap.get?_update_self _ hS rfl
  have I2 : Inv X pins σ H { s with heap := s'.heap.update q fun _ => ({ cls := .type "list", data := .seq #[] k } : Obj), toks := s'.toks } := I.turned (it := it) (fun b o hb eb => by
    by_cases hbq : b = q
    · subst hbq
      rw [oq, ← eb]
      exact e.symm
    · rw [o2 b hbq]
      exact hm.heap b o (fun z => by
        rcases List.mem_cons.mp z with z | z
        · exact hbq z
        · exact hb (List.mem_singleton.mp z)) eb) f0 f1 f3 f4 f5
  have I3 := I2.write (x := q) (e := q) (h' := s'.heap) (o := .lst (signs x)) (t' := s'.toks) (by rw [hq]; exact trivial) (.inl rfl) (fun b u hb eb => (o2 b hb).symm.trans eb) ⟨_, hS⟩ ⟨by rw [signs_len]; exact szl hx, acc.toList, c, signs_vals hacc, by simpa using hS⟩
  rw [es]
  exact I3
/-- an empty list grown by one and cut again -/
theorem touch {EE : Value → Shared → Prop} {q : Addr} {R : Unit → Shared → Prop} (I : Inv X pins σ H s) (hq : H q = some (.lst [])) (h : ∀ s', Inv X pins σ H s' → R () s') : wpAny (model X.prog X.w) A1 (Builtin.List.listTouch (.ref q)) R EE s := by
  obtain ⟨z, its, k, r, hl, e⟩ := I.lstM hq
  cases r
  show wpAny _ _ (updateSeq q (·.push .none) >>= fun _ => updateSeq q (·.pop)) _ _ _
  refine wpAny_bind (wpAny_updateSeq e rfl ?_)
  have I2 := I.lset (f := (·.push Value.none)) (its' := [Value.none]) (ys := [.non]) (t' := s.toks) hq e (by simp) (.cons rfl .nil) (szl (by decide))
  obtain ⟨z4, its4, k4, r4, hl4, e4⟩ := I2.lstM upd_same
  obtain ⟨u4, rfl, ru4⟩ := r4.one
  refine wpAny_updateSeq e4 rfl ?_ (by show 1 ≤ sizeLine; exact szl (by decide)) (by show 0 ≤ sizeLine + 1; exact Nat.zero_le _)
  have I3 := I2.lset (f := (·.pop)) (its := [u4]) (its' := []) (ys := []) (t' := s.toks) upd_same e4 (by rfl) .nil (Nat.zero_le _)
  rw [upd_upd] at I3
  have hH : upd H q (.lst []) = H := by
    funext b
    by_cases hb : b = q
    · rw [hb, upd_same, hq]
    · rw [upd_ne hb]
  rw [hH] at I3
  exact h _ I3
def rListOwn (C : Addr) (fld : Str) : List V → Hp → VK → Prop := fun xs H Q => ∃ (a dx : Addr) (fs : List (Str × V)) (x : Str), xs = [.ref a] ∧ H a = some (.ins C dx fs) ∧ fs.lookup fld = some (.str x) ∧ x.length ≤ 1000 ∧ ∀ q, H q = none → Q (.ref q) (upd H q (.lst (signs x)))
theorem call_listOwnS (hcalm : X.calm = true) (MI : OwnM X.K C "__iter__" f) (ML : OwnM X.K C "__len__" f') (hr : Room (n + 3) X.A) (FI : ∀ base : Heap, FnOk X.prog X.w X.K X.mg base CX n f fd ps (spItS C fld base.objs.size)) (bI : L2.Binds X.K fd ps []) (xI : Passes CX X E)
    (FL : FnOk X.prog X.w X.K X.mg X.base CX0 n f' fd' ps' (spLenS C fld)) (bL : L2.Binds X.K fd' ps' []) : CallR X (.type "list") (rListOwn C fld) := by
  intro pins s σ H xs us Q I r h
  obtain ⟨a, dx, fs, x, rfl, ha, hl, hz, q0⟩ := h
  obtain ⟨u, rfl, ru⟩ := r.one
  cases ru
  have sb : Sub X (n + 1) X.A.in1.in1 := Sub.in1 (Sub.in1 (⟨hr, rfl⟩ : Sub X (n + 3) X.A))
  refine callType_codes (Q₁ := fun obj s₁ => obj = .ref s.heap.objs.size ∧ s₁ = { s with heap := s.heap.push { cls := .type "list", data := .seq #[] } }) PySem.F.called_list (PySem.F.typeCall_list_1 _) PySem.F.entry_list_init
    (code_list_new _ ⟨rfl, rfl⟩) fun obj s₁ h₁ => ?_
  obtain ⟨rfl, rfl⟩ := h₁
  have hS : (s.heap.push { cls := .type "list", data := .seq #[] }).get? s.heap.objs.size = some { cls := .type "list", data := .seq #[] } := Heap.get?_push_size _ rfl
  have fr : H s.heap.objs.size = none := I.hok.fresh (Nat.le_refl _)
  have q1 := q0 _ fr
  refine ⟨⟨_, hS, rfl⟩, PySem.F.args_list_init_2 _ _, ?_⟩
  have I1 : Inv X pins σ (upd H s.heap.objs.size (.lst [])) { s with heap := s.heap.push { cls := .type "list", data := .seq #[] } } := I.lnew (its := []) (t' := s.toks) .nil (Nat.zero_le _)
  have I2 := I1.lset (f := fun _ => #[]) (its := []) (its' := []) (ys := []) (t' := s.toks) upd_same hS rfl .nil (Nat.zero_le _)
  rw [upd_upd] at I2
  have ha2 : upd H s.heap.objs.size (.lst []) a = some (.ins C dx fs) := (upd_ne (ne_of_none ha fr)).trans ha
  show wpAny _ _ (Builtin.List.listItems (.ref s.heap.objs.size) >>= fun old => Builtin.List.listUpdate (.ref s.heap.objs.size) (fun _ => #[]) >>= fun _ => letGo old.toList.reverse >>= fun _ => Builtin.List.listExtendWith (.ref s.heap.objs.size) (.ref a) .none) _ _ _
  refine wpAny_bind ?_
  unfold Builtin.List.listItems
  refine wpAny_bind (wpAny_seqItems hS rfl (wpAny_pure (wpAny_bind ?_)))
  show wpAny _ _ (updateSeq s.heap.objs.size (fun _ => #[])) _ _ _
  refine wpAny_updateSeq hS rfl (wpAny_bind (wpAny_letGo ?_))
  clear hS I1
  revert I2
  generalize hs2 : ({ s with heap := (s.heap.push { cls := .type "list", data := .seq #[] }).update s.heap.objs.size (Obj.mapSeq fun _ => #[]) } : Shared) = s2
  intro I2
  generalize s.heap.objs.size = q at *
  clear hs2
  have hqa : q ≠ a := ne_of upd_same ha2 (fun z => nomatch z)
  obtain ⟨mA, J, _⟩ := ins_get I2.hok ha2
  obtain ⟨od, J, _⟩ := J.look
  obtain ⟨m, hF⟩ := I2.fr
  unfold Builtin.List.listExtendWith
  refine wpAny_bind (J.type.here ?_)
  have z1 : Builtin.List.listSameRef (.ref q) (.ref a) = false := by simp [Builtin.List.listSameRef, hqa]
  simp only [z1, show (Value.ref C == Value.type "list") = false from rfl, show (Value.ref C == Value.type "tuple") = false from rfl, Bool.or_false, Bool.false_eq_true, if_false]
  refine wpAny_bind (PySem.W.owit_iter hF I2.ok.mod.kin J MI.at_ MI.fn (wpAny_mono (run_pad (sb.mono (Nat.le_succ n)) FI bI xI I2 (.cons val_ref .nil) (Q := fun v H' => ∃ it, v = .ref it ∧ upd H q (.lst []) it = none ∧ s2.heap.objs.size ≤ it ∧ H' = upd (upd H q (.lst [])) it (ItSO it x)) ⟨a, dx, fs, x, rfl, ha2, hl, fun it n1 n2 => ⟨it, rfl, n1, n2, rfl⟩⟩) (fun v s' q' => ?_) fun _ _ z => z))
  obtain ⟨w, H', I3, rw', it, rfl, hn, hsz, rfl⟩ := q'
  cases rw'
  have ha3 : upd (upd H q (.lst [])) it (ItSO it x) a = some (.ins C dx fs) := (upd_ne (ne_of_none ha2 hn)).trans ha2
  -- behind the iterator's making: its length is asked, then the items go in
  have last : ∀ s4, Inv X pins σ (upd (upd H q (.lst [])) it (ItSO it x)) s4 → codeAny (model X.prog X.w) X.A.in1 (.builtin "list.extend.loop" ⟨[.ref q, .ref it, .none], []⟩) (wants (fun r s₂ => r = Value.none ∧ EP X pins σ Q (Value.ref q) s₂) X.xe) s4 := fun s4 I4 => by
    have he : upd (upd H q (.lst [])) it (ItSO it x) it = some (ItSO it x) := upd_same
    have he' := he
    unfold ItSO at he'
    obtain ⟨⟨ty, t, hy, st⟩, _⟩ : (∃ ty t, (ty = "str_ascii_iterator" ∨ ty = "str_iterator") ∧ s4.heap.IsStrIter it ty x t 0) ∧ _ := (show ObjOk X.prog X.w _ s4.heap it (ItSO it x) from I4.hok it _ he)
    have D := inv_drop I4 he'
    rw [drop_upd hn] at D
    have fp := inv_fp I4 he (Nat.le_trans I2.sz hsz)
    rw [drop_upd hn] at fp
    refine own_fill (I.ok.hd hcalm) D upd_same fp hy st hz (I.ok.hd hcalm) fun s5 I5 => ⟨rfl, .ref q, _, I5, rfl, ?_⟩
    rw [upd_upd]
    exact q1
  have hT : ∃ ty : String, s'.TypeIs (.ref it) ty ∧ (ty = "str_ascii_iterator" ∨ ty = "str_iterator") := by
    obtain ⟨⟨ty, t, hy, o, ho, hc, _⟩, _⟩ : (∃ ty t, (ty = "str_ascii_iterator" ∨ ty = "str_iterator") ∧ s'.heap.IsStrIter it ty x t 0) ∧ _ := (show ObjOk X.prog X.w _ s'.heap it (ItSO it x) from I3.hok it _ upd_same)
    exact ⟨ty, ⟨o, ho, hc⟩, hy⟩
  have quiet : ∀ args, (Code.builtin "list.extend.loop" args).quiet = true := fun args => plainId_quiet PySem.F.plain_extend_loop _
  unfold PySem.W.OwitIt
  obtain ⟨ty, hT, hy⟩ := hT
  have qit : q ≠ it := fun z => by
    rw [← z, upd_same] at hn
    cases hn
  have eq0 : upd (upd H q (.lst [])) it (ItSO it x) q = some (.lst []) := (upd_ne qit).trans upd_same
  rcases hy with rfl | rfl
  · refine wpAny_specialOf hT PySem.F.slot_str_ascii_iterator_next.lookup ?_
    show wpAny _ _ (holding [Value.ref it] (Builtin.List.listLengthHint (.ref a)) >>= _) _ _ _
    refine wpAny_bind (wpAny_holding (own_hint ML sb FL bL I3 ha3 hl hz fun b s4 I4 => ?_))
    refine wpAny_ite_split (fun _ => ?_) (fun _ => wpAny_pure ⟨quiet _, last s4 I4⟩)
    exact wpAny_bind (wpAny_rule (wpAny_bind (touch I4 eq0 fun s5 I5 => wpAny_pure ⟨quiet _, last s5 I5⟩)))
  · refine wpAny_specialOf hT PySem.F.slot_str_iterator_next.lookup ?_
    show wpAny _ _ (holding [Value.ref it] (Builtin.List.listLengthHint (.ref a)) >>= _) _ _ _
    refine wpAny_bind (wpAny_holding (own_hint ML sb FL bL I3 ha3 hl hz fun b s4 I4 => ?_))
    refine wpAny_ite_split (fun _ => ?_) (fun _ => wpAny_pure ⟨quiet _, last s4 I4⟩)
    exact wpAny_bind (wpAny_rule (wpAny_bind (touch I4 eq0 fun s5 I5 => wpAny_pure ⟨quiet _, last s5 I5⟩)))
end

/-! ### text[::-1] -/
theorem ssi_rev (n : Nat) : PySem.Builtin.Str.strSliceIndices none none (-1) n = (List.range n).reverse := by
  show sliceRange ((n : Int) - 1) (-1) (-1) = _
  rw [PySem.W.krv_sliceRange, PySem.W.krv_range]
theorem sOf_rev (l : List Nat) : (⟨((List.range (sOf l).length).reverse.filterMap ((sOf l).cps[·]?)).toArray⟩ : Str) = sOf l.reverse := by
  rw [List.filterMap_reverse]
  show (⟨(List.filterMap ((sOf l).cps[·]?) (List.range (sOf l).cps.size)).reverse.toArray⟩ : Str) = _
  rw [PySem.W.krv_all]
  simp [sOf]
def tRevS (te : TE) : TE := fun σ H Q => te σ H fun x H1 => ∃ l : List Nat, x = .str (sOf l) ∧ l.length ≤ 1000 ∧ Q (.str (sOf l.reverse)) H1
theorem pe_revS {X : Cx} {e : Expr} {te : TE} {k : Nat} {p1 p2 p3 pos : Pos} (he : PE X e te) : PE X (.Subscript e (.Slice none none (some (.UnaryOp .USub (.Constant (.int 1) k p1) p2)) p3) pos) (tRevS te) := by
  refine ⟨fun pins s σ H Q I h => ?_⟩
  refine Subscript_ (thn (he.run pins s σ H _ I h) fun v s1 ⟨x, H1, I1, r1, q1⟩ => ?_)
  obtain ⟨l, ex, hz, q⟩ := q1
  subst ex
  obtain ⟨t, rfl⟩ := r1
  have hst : PO X (some (.UnaryOp .USub (.Constant (.int 1) k p1) p2)) (tPart (tUn (rU fun i => .int (-i)) (tC (.int 1)))) := po_some (pe_un un_neg pe_int)
  refine wpAny_Slice (thn (po_none.run pins s1 σ H1 (fun o H2 => o = none ∧ H2 = H1) I1 ⟨rfl, rfl⟩) fun vl s2 ⟨lo, H2, I2, pl, el, e2⟩ => ?_)
  subst el e2
  refine thn (po_none.run pins s2 σ H2 (fun o H3 => o = none ∧ H3 = H2) I2 ⟨rfl, rfl⟩) fun vu s3 ⟨u, H3, I3, pu, eu, e3⟩ => ?_
  subst eu e3
  refine thn (hst.run pins s3 σ H3 (fun o H4 => o = some (-1) ∧ H4 = H3) I3 ⟨1, rfl, -1, rfl, rfl, rfl⟩) fun vs s4 ⟨o, H4, I4, ps, eo, e4⟩ => ?_
  subst eo e4
  have I5 : Inv X pins σ H4 { s4 with heap := s4.heap.push { cls := .type "slice", data := .fields #[vl, vu, vs] } } := I4.kept (t' := s4.toks) fun b ob q => Heap.get?_push_of_some _ q
  show wpAny (model X.prog X.w) X.A (subscriptTail e (.Slice none none (some (.UnaryOp .USub (.Constant (.int 1) k p1) p2)) p3) (.str (sOf l) t) (.ref s4.heap.objs.size)) (EP X pins σ Q) X.xe { s4 with heap := s4.heap.push { cls := .type "slice", data := .fields #[vl, vu, vs] } }
  obtain ⟨a1, rfl, f1⟩ := IsPart.raw pl
  obtain ⟨a2, rfl, f2⟩ := IsPart.raw pu
  obtain ⟨a3, rfl, f3⟩ := IsPart.raw ps
  refine tail_any (T := "str") (ops := [.ref s4.heap.objs.size, .str (sOf l) t]) (typeIs_str _ _ _) (F.slot_str_getitem.lookup) ?_ (by with_unfolding_all rfl)
  refine wpAny_getItem_str_slice (l := a1) (u := a2) (st := a3) ⟨_, Heap.get?_push_size _ rfl, rfl, rfl⟩ (by rw [f3]; rfl) ?_
  have hp : slicePicked (sOf l) a1 a2 a3 = (List.range (sOf l).length).reverse := by
    unfold slicePicked
    rw [f1, f2, f3]
    exact ssi_rev _
  unfold sliceMade
  rw [f3, hp, if_neg (by simp), sOf_rev]
  exact ⟨by rw [sOf_len, List.length_reverse]; exact szl hz, .str _, H4, I5.tok _, ⟨_, rfl⟩, q⟩

/-! ### the making of an object within a try: the wish looks at the slots -/
section
variable {X : Cx} {CX : CXT} {n : Nat} {f C : Addr} {fd : FuncData} {ps : List Str} {sp : Sp} {E : L2.St → XK} {x : Str} {p pos : Pos} {e : Expr} {es : List Expr} {t : TA}
theorem makeS_run {E : XK} {Q : VK} {us : List Value} {vs : List V} {pins : List (Addr × Obj)} {σ : L2.St} {H : Hp} {s : Shared} (M : Mk X.K C f) (F : FnOk X.prog X.w X.K X.mg X.base CX n f fd ps sp) (room : Room (n + 1) X.A) (hb : L2.Binds X.K fd ps [])
    (esc : PassesAt CX X σ E) (J : L2.Inv X pins σ H s) (rs : Vals vs us) (h : ∀ y dy, H y = none → H dy = none → dy ≠ y → sp (.ref y :: vs) (L2.upd (L2.upd H dy (.own y)) y (.ins C dy [])) (fun v H2 => v = .non ∧ Q (.ref y) H2) E) :
    wpAny (model X.prog X.w) X.A (call (.ref C) us) (EP X pins σ Q) X.xe s := by
  generalize hn : s.heap.objs.size = k
  have wish := h (k + 1) k (J.hok.fresh (hn ▸ Nat.le_succ _)) (J.hok.fresh (hn ▸ Nat.le_refl _)) (Nat.ne_of_lt (Nat.lt_succ_self k))
  subst hn
  have J2 := L2.Inv.made (C := C) J
  have rs2 : Vals (V.ref (s.heap.objs.size + 1) :: vs) (Value.ref (s.heap.objs.size + 1) :: us) := .cons val_ref rs
  have many : (Value.ref (s.heap.objs.size + 1) :: us ++ []).length = ps.length := by
    rw [List.append_nil, ← F.len _ _ _ _ wish]
    exact rs2.length.symm
  have bd := hb _ (Value.ref (s.heap.objs.size + 1) :: us) J2.kIn many
  rw [List.append_nil] at bd
  refine wpAny_call (make_map (f := f) J.kIn M.makes M.init (beq_iff_eq.mp M.fn) (codeAny_mono (F.run _ X.stack _ _ ⟨_ :: us, []⟩ _ _ _ E (room.make C us []) (J2.env0.make C us []) bd rs2 wish) fun res s' post => ?_))
  cases res with
  | error er => exact esc pins _ _ er s' J2 post
  | ok fl =>
    cases fl with
    | ret u =>
      obtain ⟨v, H', J3, rv, ev, w⟩ := J2.after post
      subst ev
      exact ⟨rv, ⟨V.ref (s.heap.objs.size + 1), H', J3, val_ref, w⟩⟩
    | next => exact post.elim
    | brk => exact post.elim
    | cont => exact post.elim
def tMakeS (C : Addr) (sp : Sp) (E : L2.St → XK) (t : TA) : TE := fun σ H Q => t σ H fun vs H1 => ∀ y dy, H1 y = none → H1 dy = none → dy ≠ y → sp (.ref y :: vs) (L2.upd (L2.upd H1 dy (.own y)) y (.ins C dy [])) (fun v H2 => v = .non ∧ Q (.ref y) H2) (E σ)
theorem pe_makeS (M : Mk X.K C f) (F : FnOk X.prog X.w X.K X.mg X.base CX n f fd ps sp) (room : Room (n + 1) X.A) (hg : Gl X x) (hm : X.mg x = some (.ref C)) (hb : L2.Binds X.K fd ps []) (esc : ∀ σ, PassesAt CX X σ (E σ)) (ha : PA X (e :: es) t)
    (hdb : (x == ("__debug__" : Str)) = false := by decide) (he : starEach (e :: es) X.env = (false, eval e X.env) :: starEach es X.env := by rfl) (hpl : (backTo pos (starEach es X.env)).any (·.1) = false := by rfl) : PE X (.Call (.Name x p) (e :: es) [] pos) (tMakeS C sp E t) := by
  refine ⟨fun pins s σ H Q J h => wpAny_Call_Name_kw (ld_glob J hg hm ?_ hdb)⟩
  exact PySem.W.callWith_K (h₀ := X.base) J.ok.mod.kin M.kp (thn (ha.run pos pins s σ H _ J h) fun us s1 ⟨vs, H1, J1, r, q⟩ => ⟨J1.kIn, makeS_run M F room hb (esc σ) J1 r q⟩) he hpl
end
theorem pe_fldK {X : Cx} {K : PySem.W.Frag} {e : Expr} {fld : Str} {pos : Pos} {ta : TE} (hK : X.K = K) (he : PE X e ta) (hb : attributeBase e fld X.env (eval e X.env) = eval e X.env) : PE X (.Attribute e fld pos) (tFld K ta fld) := hK ▸ pe_fld he hb
/-! the call of a method whose exceptions meet a wish that looks at the slots -/
def tMethW (C : Addr) (m : Str) (sp : Sp) (E : L2.St → XK) (ta : TE) (t : TA) : TE := fun σ H Q => ta σ H fun y H1 => ∃ b dy gs, y = .ref b ∧ H1 b = some (.ins C dy gs) ∧ gs.lookup m = none ∧ t σ H1 fun ws H2 => sp (y :: ws) H2 Q (E σ)
section
variable {X : Cx} {CX : CXT} {n : Nat} {f C : Addr} {fd : FuncData} {ps : List Str} {sp : Sp} {E : L2.St → XK} {m : Str} {apos pos : Pos} {o e : Expr} {es : List Expr} {ta : TE} {t : TA}
theorem pe_methW {pl : Sem Bool} (obj : PE X o ta) (c : Cls X.K C) (M : Meth X.K C m f) (F : FnOk X.prog X.w X.K X.mg X.base CX n f fd ps sp) (room : Room n X.A) (hb : L2.Binds X.K fd ps []) (esc : ∀ σ, PassesAt CX X σ (E σ)) (ha : PA X (e :: es) t)
    (hst : starEach (e :: es) X.env = (false, eval e X.env) :: starEach es X.env := by rfl) (hpl : (backTo pos (starEach es X.env)).any (·.1) = false := by rfl)
    (ht : eval (.Call (.Attribute o m apos) (e :: es) [] pos) X.env = (do let y ← eval o X.env; standAt apos.atName; let (g, first) ← holding [y] (getMethod y m pl); callWith pos g first (backTo pos (starEach (e :: es) X.env)) (backToKw pos (keywordEach [] X.env))) := by rfl) :
    PE X (.Call (.Attribute o m apos) (e :: es) [] pos) (tMethW C m sp E ta t) := by
  refine ⟨fun pins s σ H Q J h => PySem.W.methodCall_KW (pl := pl) (thn (obj.run pins s σ H _ J h) fun u s1 ⟨y, H1, J1, ru, b, dy, gs, ey, eb, lk, q⟩ => ?_) ht⟩
  subst ey
  cases ru
  refine getmeth_ok J1 eb c M lk (PySem.W.callWith_K (first := [.ref b]) (h₀ := X.base) J.ok.mod.kin M.kp (thn (ha.run pos pins s1 σ H1 _ J1 q) fun us s2 ⟨ws, H2, J2, r, q2⟩ => ⟨J2.kIn, ?_⟩) hst hpl)
  exact run_fnS (us := .ref b :: us) (vs := .ref b :: ws) F room hb (esc σ) J2 (.cons val_ref r) q2
/-- within a def that may raise: what a callee lets out is let out -/
theorem passUp {X : Cx} {E : XK} (tk : Takes X (fun cls d _ H => E cls d H)) : Passes (L2.CX X.prog X.w) X E := passW tk (fun _ _ _ _ _ h => h)
end

/-! ### deep comparisons of texts -/
theorem strOk_of {l : List Nat} (h : ∀ c ∈ l, c < 1114112) : PyData.strOk (sOf l) = true := by
  unfold PyData.strOk sOf
  simpa using h
def signD (l : List Nat) : List PyData := l.map fun c => PyData.str (sOf [c])
theorem signs_sOf (l : List Nat) : signs (sOf l) = l.map fun c => V.str (sOf [c]) := by
  simp [signs, sOf]
theorem dp_strs {K : PySem.W.Frag} {H : Hp} : ∀ l : List Str, DpAll K H (l.map V.str) (l.map PyData.str)
  | [] => .nil
  | x :: r => .cons (.str x) (dp_strs r)
theorem dp_signs {K : PySem.W.Frag} {H : Hp} (l : List Nat) : DpAll K H (signs (sOf l)) (signD l) := by
  have h := dp_strs (K := K) (H := H) (l.map fun c => sOf [c])
  rw [List.map_map, List.map_map] at h
  rw [signs_sOf]
  exact h
theorem lay_strs : ∀ l : List Str, PyData.canLayAll0 (l.map PyData.str) = l.all PyData.strOk
  | [] => rfl
  | x :: r => by simp [PyData.canLayAll0, PyData.canLay0, lay_strs r]
theorem deep_strs : ∀ l : List Str, PyData.depthAll (l.map PyData.str) = 0
  | [] => rfl
  | x :: r => by simp [PyData.depthAll, PyData.depth, deep_strs r]
theorem eqv_strs : ∀ a b : List Str, PyData.eqvAll (a.map PyData.str) (b.map PyData.str) = decide (a = b)
  | [], [] => by simp [PyData.eqvAll]
  | [], _ :: _ => by simp [PyData.eqvAll]
  | _ :: _, [] => by simp [PyData.eqvAll]
  | x :: r, y :: t => by
    simp only [List.map_cons, PyData.eqvAll, PyData.eqv, eqv_strs r t]
    by_cases h : x = y <;> by_cases h' : r = t <;> simp [h, h']
theorem shaped_signs {l : List Nat} (h : ∀ c ∈ l, c < 1114112) : SeqAt.shaped (.list (signD l)) = true := by
  have e : signD l = (l.map fun c => sOf [c]).map PyData.str := by rw [List.map_map]; rfl
  have k : (l.map fun c => sOf [c]).all PyData.strOk = true := by
    rw [List.all_map, List.all_eq_true]
    intro c hc
    exact strOk_of fun d hd => by rw [List.mem_singleton] at hd; rw [hd]; exact h c hc
  rw [e]
  unfold SeqAt.shaped
  rw [PyData.canLay0, lay_strs, k, PyData.depth, deep_strs]
  rfl
theorem eqv_signs (a b : List Nat) : PyData.eqv (.list (signD a)) (.list (signD b)) = decide (a = b) := by
  have e : ∀ l : List Nat, signD l = (l.map fun c => sOf [c]).map PyData.str := fun l => by rw [List.map_map]; rfl
  rw [e, e, PyData.eqv, eqv_strs]
  refine decide_eq_decide.mpr ⟨fun h => ?_, fun h => by rw [h]⟩
  have := congrArg (List.map fun s : Str => s.cps.toList.headD 0) h
  rw [List.map_map, List.map_map] at this
  have hid : ((fun s : Str => s.cps.toList.headD 0) ∘ fun c => sOf [c]) = id := rfl
  rwa [hid, List.map_id, List.map_id] at this
theorem good_codes {l : List Nat} {n : Nat} (g : Good l n) : ∀ c ∈ l, c < 1114112 := fun c hc => by
  rcases g.ltr c hc with e | e <;> omega
/-- a pair of texts -/
theorem shaped_pair {a b : List Nat} (ha : ∀ c ∈ a, c < 1114112) (hb : ∀ c ∈ b, c < 1114112) : SeqAt.shaped (.tuple [.str (sOf a), .str (sOf b)]) = true := by
  simp [SeqAt.shaped, PyData.canLay0, PyData.canLayAll0, PyData.depth, PyData.depthAll, strOk_of ha, strOk_of hb]
theorem eqv_pair (a b c d : List Nat) : PyData.eqv (.tuple [.str (sOf a), .str (sOf b)]) (.tuple [.str (sOf c), .str (sOf d)]) = (decide (a = c) && decide (b = d)) := by
  rw [PyData.eqv, PyData.eqvAll, PyData.eqvAll, PyData.eqvAll, PyData.eqv, PyData.eqv, Bool.and_true]
  have h : ∀ x y : List Nat, (sOf x == sOf y) = decide (x = y) := fun x y => by
    by_cases e : x = y
    · simp [e]
    · rw [beq_eq_false_iff_ne.mpr fun z => e (sOf_inj.mp z), decide_eq_false e]
  rw [h, h]

/-! ### facts of classes -/
theorem cls_in {K : PySem.W.Frag} {C : Addr} {t : Value} {b : Bool} (h2 : PySem.W.isClsIn K C = true) (h3 : PySem.W.typeIn K (.ref C) = some (.type "type")) (h4 : PySem.W.subIn K t (.ref C) = some b) : PySem.W.kitCls K t (.ref C) = some b := by
  have e : (PySem.W.clsIn K C).isSome = true := h2
  unfold PySem.W.kitCls
  simp only []
  rw [e, h3, h4]
  rfl
theorem exm_of {K : PySem.W.Frag} {S B : Addr} (h1 : PySem.W.subIn K (.ref B) (.type "BaseException") = some true) (h2 : PySem.W.isClsIn K B = true) (h3 : PySem.W.typeIn K (.ref B) = some (.type "type")) (h4 : PySem.W.subIn K (.ref S) (.ref B) = some true) : PySem.W.exmOne K (.ref S) (.ref B) = some true := by
  unfold PySem.W.exmOne
  rw [h1, cls_in h2 h3 h4]
  rfl
theorem kit_self {K : PySem.W.Frag} {t : Value} : PySem.W.kitOne K t t = some true := by
  unfold PySem.W.kitOne
  rw [if_pos (by simp)]
theorem kit_own {K : PySem.W.Frag} {C : Addr} {T : String} {b : Bool} (h2 : PySem.W.isClsIn K C = true) (h3 : PySem.W.typeIn K (.ref C) = some (.type "type")) (h4 : PySem.W.subIn K (.type T) (.ref C) = some b) : PySem.W.kitOne K (.type T) (.ref C) = some b := by
  unfold PySem.W.kitOne
  rw [if_neg (by simp), cls_in h2 h3 h4]
theorem kit_kind {K : PySem.W.Frag} {C : Addr} {T : String} {b : Bool} (hm : PySem.W.kitMeta T = true) (h4 : PySem.W.subIn K (.ref C) (.type T) = some b) : PySem.W.kitOne K (.ref C) (.type T) = some b := by
  unfold PySem.W.kitOne
  rw [if_neg (by simp)]
  unfold PySem.W.kitCls
  simp only []
  rw [if_pos hm, h4]
theorem any_hd {K : PySem.W.Frag} {t c : Value} {r : List Value} (h : PySem.W.kitOne K t c = some true) : PySem.W.kitAny K t (c :: r) = some true := by
  unfold PySem.W.kitAny
  rw [h]
theorem any_tl {K : PySem.W.Frag} {t c : Value} {r : List Value} {b : Bool} (h : PySem.W.kitOne K t c = some false) (k : PySem.W.kitAny K t r = some b) : PySem.W.kitAny K t (c :: r) = some b := by
  unfold PySem.W.kitAny
  rw [h]
  exact k
theorem any_nil {K : PySem.W.Frag} {t : Value} : PySem.W.kitAny K t [] = some false := rfl

/-! ### word_fault -/
def wWord : List Nat := [119, 111, 114, 100]
def wCount : List Nat := [99, 111, 117, 110, 116]
def wBelow : List Nat := [98, 101, 108, 111, 119]
def ltrs (l : List Nat) : Bool := l.all fun c => c == 100 || c == 111
def lowAt (l : List Nat) (k : Nat) : Bool := decide ((l.take k).count 100 < (l.take k).count 111)
def wfault (l : List Nat) : Option (List Nat) :=
  if 2 ≤ l.length ∧ l.length ≤ 12 then if ltrs l = true then if l.count 100 = l.count 111 then if (List.range l.length).any (lowAt l) = true then some wBelow else none else some wCount else some wWord else some wWord
def optV : Option (List Nat) → V
  | none => .non
  | some l => .str (sOf l)

/-! ### the law's own judge of words -/
def ht (l : List Nat) (k : Nat) : Int := ((l.take k).count 100 : Int) - (l.take k).count 111
theorem ht_zero (l : List Nat) : ht l 0 = 0 := by simp [ht]
theorem cnt_zero (l : List Nat) (c : Nat) : (((l.take 0).count c : Nat) : Int) = 0 := by simp
theorem ht_succ {l : List Nat} {i c : Nat} (h : l[i]? = some c) : ht l (i + 1) = ht l i + (if c = 100 then 1 else 0) - (if c = 111 then 1 else 0) := by
  unfold ht
  rw [List.take_add_one, h]
  show (((l.take i ++ [c]).count 100 : Nat) : Int) - ((l.take i ++ [c]).count 111 : Nat) = _
  rw [List.count_append, List.count_append, count_sign, count_sign]
  split <;> split <;> omega
/-- low is the least height so far, at most 0 -/
structure LowIs (l : List Nat) (i : Nat) (low : Int) : Prop where
  nonpos : low ≤ 0
  least : ∀ k, k ≤ i → low ≤ ht l k
  some_ : low = 0 ∨ ∃ k, k ≤ i ∧ low = ht l k
theorem LowIs.next {l : List Nat} {i : Nat} {low z : Int} (h : LowIs l i low) (hz : z = ht l (i + 1)) : LowIs l (i + 1) (if z < low then z else low) := by
  subst hz
  have n := h.nonpos
  refine ⟨by split <;> omega, fun k hk => ?_, ?_⟩
  · by_cases hk2 : k ≤ i
    · have := h.least k hk2
      split <;> omega
    · obtain rfl : k = i + 1 := by omega
      split <;> omega
  · split
    · exact .inr ⟨i + 1, Nat.le_refl _, rfl⟩
    · rcases h.some_ with e | ⟨k, hk, e⟩
      · exact .inl e
      · exact .inr ⟨k, by omega, e⟩
theorem LowIs.fault {l : List Nat} {low : Int} (h : LowIs l l.length low) (h0 : ht l l.length = 0) : (List.range l.length).any (lowAt l) = true ↔ low < 0 := by
  rw [List.any_eq_true]
  constructor
  · rintro ⟨k, hk, e⟩
    have := h.least k (Nat.le_of_lt (List.mem_range.mp hk))
    have e2 := of_decide_eq_true e
    unfold ht at this
    omega
  · intro hl
    rcases h.some_ with e | ⟨k, hk, e⟩
    · omega
    · by_cases hk2 : k < l.length
      · exact ⟨k, List.mem_range.mpr hk2, decide_eq_true (by unfold ht at e; omega)⟩
      · obtain rfl : k = l.length := by omega
        omega

theorem good_fault {l : List Nat} {n : Nat} (g : Good l n) (h1 : 1 ≤ n) (h6 : n ≤ 6) : wfault l = none := by
  have hl := g.len
  have hc := g.cnt
  have ht := ltr_count g.ltr
  unfold wfault
  rw [if_pos ⟨by omega, by omega⟩, if_pos, if_pos (by omega), if_neg]
  · rw [List.any_eq_true]
    rintro ⟨k, hk, e⟩
    have := g.ahead k (Nat.le_of_lt (List.mem_range.mp hk))
    have := of_decide_eq_true e
    omega
  · unfold ltrs
    rw [List.all_eq_true]
    intro c hc2
    rcases g.ltr c hc2 with e | e <;> subst e <;> rfl

/-! ### heights -/
def htsI (l : List Nat) (i : Nat) : List Int := (List.range (i + 1)).map (ht l)
theorem htsI_succ (l : List Nat) (i : Nat) : htsI l (i + 1) = htsI l i ++ [ht l (i + 1)] := by
  unfold htsI
  rw [List.range_succ, List.map_append]
  rfl
theorem htsI_len (l : List Nat) (i : Nat) : (htsI l i).length = i + 1 := by simp [htsI]
theorem htsI_last (l : List Nat) (i : Nat) : ∃ r, htsI l i = r ++ [ht l i] := by
  unfold htsI
  rw [List.range_succ, List.map_append]
  exact ⟨_, rfl⟩
theorem atI_last {α : Type} (r : List α) (x : α) : atI (r ++ [x]) (-1) = some x := by
  unfold atI ixN
  rw [if_neg (by decide)]
  have h1 : (r ++ [x]).length = r.length + 1 := by simp
  rw [h1, if_pos (by omega)]
  have h2 : ((-1 : Int) + ((r.length + 1 : Nat) : Int)).toNat = r.length := by omega
  rw [h2]
  simp
def vI (xs : List Int) : List V := xs.map V.int
theorem vI_app (a b : List Int) : vI (a ++ b) = vI a ++ vI b := List.map_append
theorem vI_last (l : List Nat) (i : Nat) : atI (vI (htsI l i)) (-1) = some (.int (ht l i)) := by
  obtain ⟨r, e⟩ := htsI_last l i
  rw [e, vI_app]
  exact atI_last _ _
theorem ht_step {l : List Nat} {i c : Nat} (h : l[i]? = some c) (hc : c = 100 ∨ c = 111) : ht l i + (if c = 100 then 1 else -1) = ht l (i + 1) := by
  rw [ht_succ h]
  rcases hc with e | e <;> subst e <;> simp <;> omega
theorem join_signsS : ∀ l : List Nat, Str.join (sOf []) (l.map fun c => sOf [c]) = sOf l
  | [] => rfl
  | [c] => rfl
  | c :: d :: r => by
    have ih := join_signsS (d :: r)
    rw [List.map_cons] at ih
    rw [List.map_cons, List.map_cons, Str.join, ih, sOf_app, sOf_app]
    · rfl
    · exact fun z => nomatch z
theorem join_signs (l : List Nat) : Txt.join (sOf []) (l.map fun c => sOf [c]) = sOf l := (TL.join_eq _ _).trans (join_signsS l)
theorem sum_signs (l : List Nat) : ((l.map fun c => sOf [c]).map (·.length)).sum = l.length := by
  induction l with
  | nil => rfl
  | cons c r ih =>
    rw [List.map_cons, List.map_cons, List.sum_cons, ih, sOf_len, List.length_cons, List.length_cons]
    show 1 + _ = _
    omega
theorem cutN_len (l : List Nat) (lo hi : Option Int) : (cutN l lo hi).length ≤ l.length := by
  unfold cutN
  rw [List.length_take, List.length_drop]
  omega

/-! ### C.m(..), m a static method of the class C -/
structure SMet (K : PySem.W.Frag) (C : Addr) (mc : Value) (m : Str) (p g : Addr) : Prop where
  found : PySem.W.findCls K (.ref C) mc m = some (.get (.builtin "staticmethod.__get__") (.ref p) .none (.ref C))
  held : ∃ rest, PySem.W.recIn K p "staticmethod" = some (.ref g :: rest)
  kept : PySem.W.keepIn K (.ref g) = true
section
variable {X : Cx} {pins : List (Addr × Obj)} {σ : L2.St} {H : Hp} {s : Shared} {C p g : Addr} {mc : Value} {m : Str} {A : Around} {E : Value → Shared → Prop} {pl : Sem Bool}
theorem getstat_ok {Q : Value × List Value → Shared → Prop} (J : L2.Inv X pins σ H s) (r : ClX.CRead X.K C mc) (M : SMet X.K C mc m p g) (h : ∀ s', L2.Inv X pins σ H s' → Q (.ref g, []) s') : wpAny (model X.prog X.w) A (getMethod (.ref C) m pl) Q E s := by
  obtain ⟨rest, hp⟩ := M.held
  exact PySem.W.method_cls J.kIn r.ga (PySem.W.cls_bind J.kIn r.rd M.found (wpAny_call (PySem.W.sm_get (s := { s with toks := s.toks + 1 }) J.kIn hp (PySem.W.handed_on rfl (h _ (J.tok _))))))
end
def tStat (C : Addr) (sp : Sp) (E : XK) (ta : TE) (t : TA) : TE := fun σ H Q => ta σ H fun x H1 => x = .ref C ∧ t σ H1 fun vs H2 => sp vs H2 Q E
section
variable {X : Cx} {CX : CXT} {n : Nat} {C p g : Addr} {mc : Value} {fd : FuncData} {ps : List Str} {sp : Sp} {E : XK} {m : Str} {apos pos : Pos} {o e : Expr} {es : List Expr} {ta : TE} {t : TA}
theorem pe_stat {pl : Sem Bool} (cls : PE X o ta) (r : ClX.CRead X.K C mc) (M : SMet X.K C mc m p g) (F : FnOk X.prog X.w X.K X.mg X.base CX n g fd ps sp) (room : Room n X.A) (hb : L2.Binds X.K fd ps []) (esc : Passes CX X E) (ha : PA X (e :: es) t)
    (hst : starEach (e :: es) X.env = (false, eval e X.env) :: starEach es X.env := by rfl) (hpl : (backTo pos (starEach es X.env)).any (·.1) = false := by rfl)
    (ht : eval (.Call (.Attribute o m apos) (e :: es) [] pos) X.env = (do let y ← eval o X.env; standAt apos.atName; let (g, first) ← holding [y] (getMethod y m pl); callWith pos g first (backTo pos (starEach (e :: es) X.env)) (backToKw pos (keywordEach [] X.env))) := by rfl) :
    PE X (.Call (.Attribute o m apos) (e :: es) [] pos) (tStat C sp E ta t) := by
  refine ⟨fun pins s σ H Q J h => PySem.W.methodCall_KW (pl := pl) (thn (cls.run pins s σ H _ J h) fun u s1 ⟨y, H1, J1, ru, ey, q⟩ => ?_) ht⟩
  subst ey
  cases ru
  refine getstat_ok J1 r M fun s2 J2 => PySem.W.callWith_K (first := []) (h₀ := X.base) J.ok.mod.kin M.kept (thn (ha.run pos pins s2 σ H1 _ J2 q) fun us s3 ⟨ws, H2, J3, rw', q2⟩ => ⟨J3.kIn, ?_⟩) hst hpl
  exact run_fn (us := us) (vs := ws) (dvs := []) (ds := []) F room hb .nil esc J3 rw' (by rw [List.append_nil]; exact q2)
end

/-! ### enumerate(tuple) -/
set_option maxHeartbeats 1000000 in
theorem enum_newT (l : Addr) (items : Array Value) (n : Nat) (dct : Option Addr) (sl : Array (Option Value)) :
    Meets (PySem.Builtin.«enumerate.__new__» ⟨[.type "enumerate", .ref l], []⟩) (fun _ R s => s.heap.get? l = some { cls := .type "tuple", dict := dct, data := .seq items n, slots := sl } ∧
      R (.ok (.ret (.ref (s.heap.push { cls := .type "tuple_iterator", data := .fields #[.ref l, .int 0 0] }).objs.size))) { s with heap := (s.heap.push { cls := .type "tuple_iterator", data := .fields #[.ref l, .int 0 0] }).push { cls := .type "enumerate", data := .fields #[.none, .bool false, .ref s.heap.objs.size, rawInt 0, .none, .none] } }) :=
  .of_wp fun prog w A R s h => by
    obtain ⟨hp, g, dr, tk, os⟩ := s
    obtain ⟨there, post⟩ := h
    have hsub := sub_enumerate
    have hT : Heap.IsTuple (Shared.heap ⟨hp, g, dr, tk, os⟩) l items := ⟨_, there, rfl, n, rfl⟩
    wp_walk using AutoSeq1.wpAny_loadPart' there
    refine wpAny_stack_any fun st => wpAny_pure ?_
    split
    · rename_i c _ _ _ _ _
      cases (c == Value.type "enumerate")
      · wp_walk using AutoSeq1.wpAny_loadPart' there, wpAny_pyIter_tuple hT
        exact ⟨_, rfl, post⟩
      · wp_walk using AutoSeq1.wpAny_loadPart' there, wpAny_pyIter_tuple hT
        exact ⟨_, rfl, post⟩
    · wp_walk using AutoSeq1.wpAny_loadPart' there, wpAny_pyIter_tuple hT
      exact ⟨_, rfl, post⟩
theorem call_enumT {prog : Program} {w : World} {A : Around} {E : Value → Shared → Prop} {s : Shared} {l : Addr} {items : Array Value} {Q : Value → Shared → Prop} (hT : s.heap.IsTuple l items)
    (h : ∀ h', IsEnum h' (s.heap.objs.size + 1) s.heap.objs.size 0 .none → h'.IsTupleIter s.heap.objs.size l 0 → (∀ b o, s.heap.get? b = some o → h'.get? b = some o) → Q (.ref (s.heap.objs.size + 1)) { s with heap := h' }) :
    wpAny (model prog w) A (call (.type "enumerate") [.ref l]) Q E s := by
  obtain ⟨⟨c, dct, dt, sl⟩, there, hc, n, hd⟩ := hT
  cases (show c = .type "tuple" from hc)
  cases (show dt = .seq items n from hd)
  refine callType_new F.called_enumerate (by decide) (F.typeCall_enumerate_1 _) (F.newCall_enumerate_1 _) (fun obj => F.args_object_init_2 obj _) F.entry_enumerate_new (enum_newT l items n dct sl) ⟨there, ?_⟩
  have z1 : (s.heap.push { cls := .type "tuple_iterator", data := .fields #[.ref l, .int 0 0] }).objs.size = s.heap.objs.size + 1 := Heap.size_push ..
  show _ ∧ _
  rw [z1]
  have at2 := Heap.get?_push_size (s.heap.push { cls := .type "tuple_iterator", data := .fields #[.ref l, .int 0 0] }) (o := { cls := .type "enumerate", data := .fields #[.none, .bool false, .ref s.heap.objs.size, rawInt 0, .none, .none] }) rfl
  rw [z1] at at2
  exact ⟨⟨_, at2, rfl⟩, h _ at2 ⟨_, Heap.get?_push_of_some _ (Heap.get?_push_size _ rfl), rfl, rfl⟩ fun b o x => Heap.get?_push_of_some _ (Heap.get?_push_of_some _ x)⟩
/-- the tuple at a as it stands at each turn, each item in a new pair -/
def IteT (K : PySem.W.Frag) (a : Addr) : It :=
  ⟨fun i H => ∃ (xs : List V) (x : V), SqT K H a xs ∧ xs[i]? = some x, fun i H v H' => ∃ T x, v = .ref T ∧ H T = none ∧ H' = L2.upd H T (.tup [.int (i : Nat), x]) ∧ (∀ ys, SqT K H a ys → ys[i]? = some x), fun i H => ∃ xs : List V, SqT K H a xs ∧ xs.length ≤ i⟩
theorem tup_ne {h : Heap} {l it : Addr} {xs : Array Value} {n : Nat} (p : h.IsTuple l xs) (q : h.IsTupleIter it l n) : l ≠ it := fun z => by
  obtain ⟨o, e, c, _⟩ := p
  obtain ⟨o2, e2, c2, _⟩ := q
  rw [z, e2] at e
  cases e
  exact absurd (Value.type.inj (c2.symm.trans c)) (by decide)
theorem tup_ne2 {h : Heap} {l en it : Addr} {xs : Array Value} {i : Int} {old : Value} (p : h.IsTuple l xs) (q : IsEnum h en it i old) : en ≠ l := fun z => by
  obtain ⟨o, e, c, _⟩ := p
  have q' : h.get? en = some _ := q
  rw [z, e] at q'
  cases q'
  exact absurd (Value.type.inj c) (by decide)
theorem turn_enumT {P : Program} {w : World} {K : PySem.W.Frag} {elts : List Expr} {kk : Nat} {tpos : Pos} (a e it : Addr) :
    Turn P w K (.Tuple elts kk tpos) (IteT K a) [e, it] e (fun i h => (∃ old, IsEnum h e it ((i : Nat) : Int) old) ∧ h.IsTupleIter it a i ∧ e ≠ it) where
  mem := by simp
  obj := fun i h ⟨⟨old, he⟩, ⟨o, ho, hc, hd⟩, _⟩ b hb => by
    rcases (show b = e ∨ b = it by simpa using hb) with z | z
    · rw [z]
      exact ⟨_, he, fun v q => nomatch q⟩
    · rw [z]
      exact ⟨o, ho, fun v q => by rw [hd] at q; cases q⟩
  keep := fun i h h' ⟨⟨old, he⟩, hi, ne⟩ k => ⟨⟨old, k e (by simp) _ he⟩, hi.at fun o q => k it (by simp) o q, ne⟩
  item := by
    intro X hP hw hK calm i pins s σ H E I hf ⟨⟨old, he⟩, hit, ne⟩ ⟨xs, x, hq, hx⟩
    subst hP hw hK
    obtain ⟨its, rv, p, hz⟩ := I.tuple hq
    have pt : s.heap.IsTuple a its.toArray := p
    obtain ⟨u, hu, ru⟩ := rv.get hx
    have hlt : i < its.toArray.size := by
      have := List.getElem?_eq_some_iff.mp hu
      obtain ⟨h1, _⟩ := this
      simpa using h1
    have el := Heap.lt_size he
    have il : it < s.heap.objs.size := by obtain ⟨_, q, _⟩ := hit; exact Heap.lt_size q
    have D := PySem.Draws.tuple (prog := X.prog) (w := X.w) (A := X.A.in1) (I.ok.hd calm) it a (tup_ne pt hit) its.toArray
    refine wpAny_pyNext_enum_itemD D he ⟨hit, pt⟩ hlt ne (by simp [ne, tup_ne2 pt he]) fun v h' tk hv ho ⟨hit', pt'⟩ hT hsz hk => ?_
    obtain rfl : u = v := by
      rw [List.getElem?_toArray, hu] at hv
      exact Option.some.inj hv
    refine ⟨_, rfl, wpAny_letOwnedTupleGo_enum (s := { s with heap := h', toks := tk + 1 }) ho fun h2 he2 sb => ?_⟩
    have hT2 : h2.get? s.heap.objs.size = some { cls := .type "tuple", data := .seq #[.int i tk, u] } := (sb.2 _ (Nat.ne_of_gt el)).trans hT
    have new : ObjOk X.prog X.w (L2.upd H s.heap.objs.size (.tup [.int (i : Nat), x])) h2 s.heap.objs.size (.tup [.int (i : Nat), x]) :=
      ⟨by show 2 ≤ sizeLine; decide, [.int i tk, u], .cons ⟨_, rfl⟩ (.cons ru .nil), ⟨_, hT2, rfl, _, rfl⟩⟩
    have I1 : L2.Inv X pins σ (L2.upd H s.heap.objs.size (.tup [.int (i : Nat), x])) { s with heap := h2, toks := tk + 1 } :=
      I.turnedNew (ch := [e, it]) (fun b ob hb q => (sb.2 b (fun z => hb (by simp [z]))).trans (hk b ob (fun z => hb (by simp [z])) (fun z => hb (by simp [z])) q)) hf (Nat.le_refl _) new
    refine ⟨.ref s.heap.objs.size, _, I1, rfl, ⟨_, x, rfl, I.hok.fresh (Nat.le_refl _), rfl, fun ys hy => by rw [I.tuple_inj hy hq]; exact hx⟩, ⟨⟨u, ?_⟩, hit'.at fun o q => (sb.2 it (Ne.symm ne)).trans q, ne⟩, fun b hb => ?_⟩
    · rw [show ((i + 1 : Nat) : Int) = (i : Int) + 1 by omega]
      exact he2
    · have lt : b < s.heap.objs.size := by
        rcases (show b = e ∨ b = it by simpa using hb) with z | z
        · exact z ▸ el
        · exact z ▸ il
      exact (upd_ne (Nat.ne_of_lt lt)).trans (hf b hb).1
  done := by
    intro X hP hw hK calm i pins s σ H E I hf ⟨⟨old, he⟩, hit, ne⟩ ⟨xs, hq, hx⟩
    subst hP hw hK
    obtain ⟨its, rv, p, hz⟩ := I.tuple hq
    have pt : s.heap.IsTuple a its.toArray := p
    obtain ⟨f0, f1, f2, f3, f4, f5⟩ := hf it (by simp)
    have many := rv.length
    have eT : s.TypeIs (.ref e) "enumerate" := ⟨_, he, rfl⟩
    unfold pyNext
    refine wpAny_bind (wpAny_attempt (wpAny_callSpecial?_slot (name := Str.ofString "__next__") eT F.slot_enumerate_next (wpAny_call_entry F.slot_enumerate_next eT F.entry_enumerate_next ?_ (F.args_enumerate_next_1 _))))
    show wpAny _ _ (field (.ref e) 2 >>= _) _ _ _
    refine wpAny_bind (wpAny_field he rfl (x := .ref it) rfl (wpAny_bind (PySem.wpAny_nextOf_tuple_end (I.ok.hd calm) hit pt (by simp; omega) fun h' er eb ⟨o, ho, hc⟩ => ?_)))
    exact wpAny_bind (wpAny_isInstance (T := "StopIteration") (b := true) ⟨o, ho, hc⟩ isSubtype_stop (wpAny_pure ⟨rfl, I.turned (t' := s.toks) (fun b o hb q => eb b o hb q) f0 f1 f3 f4 f5⟩))
  self := fun A i s Q E ⟨⟨_, he⟩, _⟩ h => wpAny_pyIter_enum he h
/-- enumerate(e), e a list or a tuple -/
def iEnumQ (K : PySem.W.Frag) (ta : TA) : TI := fun σ H R => ta σ H fun vs H1 => ∃ a xs, vs = [.ref a] ∧ ((SqL K H1 a xs ∧ R (Ite K a) H1) ∨ (SqT K H1 a xs ∧ R (IteT K a) H1))
theorem pi_enumQ {X : Cx} {K : PySem.W.Frag} {e : Expr} {ta : TA} {p pos tpos : Pos} {elts : List Expr} {kk : Nat} (hK : X.K = K) (hg : Gl X "enumerate") (hm : X.mg "enumerate" = none) (ha : PA X [e] ta) (hs : starEach [e] X.env = [(false, eval e X.env)] := by rfl) :
    PI X (.Tuple elts kk tpos) (.Call (.Name "enumerate" p) [e] [] pos) (iEnumQ K ta) := by
  subst hK
  refine ⟨fun pins s σ H R I h => Call_ (ld_blt I hg hm boot_enumerate (PyProof.Rows.callWith_type1 (thn (ha.run pos pins s σ H _ I h) fun us s1 ⟨vs, H1, I1, r1, a, xs, ex, q⟩ => ?_) hs rfl))⟩
  subst ex
  obtain ⟨u, rfl, ru⟩ := r1.one
  cases ru
  have foot : ∀ b, b ∈ [s1.heap.objs.size + 1, s1.heap.objs.size] → FpOk X pins H1 b := fun b hb => by
    have le : s1.heap.objs.size ≤ b := by
      rcases (show b = s1.heap.objs.size + 1 ∨ b = s1.heap.objs.size by simpa using hb) with z | z
      · exact z ▸ Nat.le_succ _
      · exact z ▸ Nat.le_refl _
    exact I1.fpOk le (I1.hok.fresh le)
  rcases q with ⟨hq, q⟩ | ⟨hq, q⟩
  · obtain ⟨its, rv, p', hz⟩ := I1.list hq
    exact call_enumerate_list p'.isList fun h' he hit hsz hk => wpAny_pyIter_enum he ⟨_, _, _, _, H1, rfl, I1.kept (t' := s1.toks) hk, turn_enum a (s1.heap.objs.size + 1) s1.heap.objs.size, ⟨⟨.none, he⟩, hit, Nat.succ_ne_self _⟩, foot, q⟩
  · obtain ⟨its, rv, p', hz⟩ := I1.tuple hq
    exact call_enumT (show s1.heap.IsTuple a its.toArray from p') fun h' he hit hk => wpAny_pyIter_enum he ⟨_, _, _, _, H1, rfl, I1.kept (t' := s1.toks) hk, turn_enumT a (s1.heap.objs.size + 1) s1.heap.objs.size, ⟨⟨.none, he⟩, hit, Nat.succ_ne_self _⟩, foot, q⟩
theorem walk_enumT {K : PySem.W.Frag} {a : Addr} {xs : List V} : Walk (IteT K a) xs.length (fun H => SqT K H a xs) (YPair (fun i => some (.int (i : Nat))) (fun i => xs[i]?)) := by
  refine ⟨fun i _ hi q => ⟨xs, xs[i], q, by simp [hi]⟩, fun _ q => ⟨xs, q, Nat.le_refl _⟩, fun i H v H' _ q y => ?_⟩
  obtain ⟨T, x, e1, e2, e3, e4⟩ := y
  exact ⟨T, .int (i : Nat), x, e1, e2, e3, rfl, e4 xs q⟩
/-- for x in e, e a list or a tuple -/
def iSeqQ (K : PySem.W.Frag) (te : TE) : TI := fun σ H R => te σ H fun v H1 => ∃ a xs, v = .ref a ∧ ((SqL K H1 a xs ∧ R (Itl K a) H1) ∨ (SqT K H1 a xs ∧ R (Itt K a) H1))
theorem pi_seqQ {X : Cx} {K : PySem.W.Frag} {tg e : Expr} {te : TE} (hK : X.K = K) (he : PE X e te) : PI X tg e (iSeqQ K te) := by
  subst hK
  refine ⟨fun pins s σ H R I h => thn (he.run pins s σ H _ I h) fun u s1 ⟨y, H1, I1, ru, a, xs, ey, q⟩ => ?_⟩
  subst ey
  cases ru
  have foot : ∀ b, b ∈ [s1.heap.objs.size] → FpOk X pins H1 b := fun b hb => by
    have z : b = s1.heap.objs.size := by simpa using hb
    rw [z]
    exact I1.fpOk (Nat.le_refl _) (I1.hok.fresh (Nat.le_refl _))
  rcases q with ⟨hq, q⟩ | ⟨hq, q⟩
  · obtain ⟨its, rv, p, hz⟩ := I1.list hq
    exact wpAny_pyIter_list p.isList ⟨_, _, _, _, H1, rfl, I1.kept (t' := s1.toks) fun b o k => Heap.get?_push_of_some _ k, turn_list a _, ⟨_, Heap.get?_push_size _ rfl, rfl, rfl⟩, foot, q⟩
  · obtain ⟨its, rv, p, hz⟩ := I1.tuple hq
    exact wpAny_pyIter_tuple (show s1.heap.IsTuple a its.toArray from p) ⟨_, _, _, _, H1, rfl, I1.kept (t' := s1.toks) fun b o k => Heap.get?_push_of_some _ k, turn_tuple a _, ⟨_, Heap.get?_push_size _ rfl, rfl, rfl⟩, foot, q⟩

/-! ### the making of exceptions with one, two fields -/
section
variable {K : PySem.W.Frag}
/-- the making of an exception with one field -/
def spE1 (K : PySem.W.Frag) (f : Str) : Sp := fun vs H Q _ => ∃ (a C : Addr) (v : V), vs = [.ref a, v] ∧ OexC K C ∧ PySem.W.findIn K (.ref C) f = some none ∧ H a = some (exo a C none) ∧
  ∀ dx, H dx = none → dx ≠ a → Q .non (upd (upd H dx (exd dx [(f, v)])) a (exo a C (some dx)))
/-- what raise C(v) asks, by its wish -/
theorem made1 {C : Addr} {f : Str} {v : V} {H : Hp} {Q : XK} (T : OexC K C) (hn : PySem.W.findIn K (.ref C) f = some none) (q : ∀ d H', Same H H' → H d = none → H' d = some (.xd [(f, v)]) → Q (.ref C) (some d) H') :
    [v].length ≤ 1000 ∧ ∀ a, H a = none → spE1 K f (.ref a :: ([v] ++ [])) (upd H a (exo a C none)) (fun v H2 => v = .non ∧ ∃ (d : Addr) (fs : List (Str × V)), H2 a = some (exo a C (some d)) ∧ H2 d = some (exd d fs) ∧ H d = none ∧ Q (.ref C) (some d) (upd (del H2 a) d (.xd fs))) (fun _ _ _ => False) := by
  refine ⟨(by show 1 ≤ 1000; decide), fun a na => ⟨a, C, v, rfl, T, hn, upd_same, fun dx n ne => ⟨rfl, dx, [(f, v)], upd_same, ?_, ?_, ?_⟩⟩⟩
  · rw [upd_ne ne, upd_same]
  · rw [upd_ne ne] at n
    exact n
  · rw [upd_ne ne] at n
    refine q dx _ (upd_del_same na n fun b o hb e => ?_) n upd_same
    rw [upd_ne hb, upd_ne (ne_of_none e n), upd_ne hb]
    exact e
/-- the making of an exception with two fields, f stored ahead of g -/
def spE2 (K : PySem.W.Frag) (f g : Str) : Sp := fun vs H Q _ => ∃ (a C : Addr) (v u : V), vs = [.ref a, v, u] ∧ OexC K C ∧ PySem.W.findIn K (.ref C) f = some none ∧ PySem.W.findIn K (.ref C) g = some none ∧ H a = some (exo a C none) ∧
  ∀ dx, H dx = none → dx ≠ a → Q .non (upd (upd (upd H dx (exd dx [(f, v)])) a (exo a C (some dx))) dx (exd dx [(g, u), (f, v)]))
theorem made2 {C : Addr} {f g : Str} {v u : V} {H : Hp} {Q : XK} (T : OexC K C) (hf : PySem.W.findIn K (.ref C) f = some none) (hg : PySem.W.findIn K (.ref C) g = some none) (q : ∀ d H', Same H H' → H d = none → H' d = some (.xd [(g, u), (f, v)]) → Q (.ref C) (some d) H') :
    [v, u].length ≤ 1000 ∧ ∀ a, H a = none → spE2 K f g (.ref a :: ([v, u] ++ [])) (upd H a (exo a C none)) (fun v H2 => v = .non ∧ ∃ (d : Addr) (fs : List (Str × V)), H2 a = some (exo a C (some d)) ∧ H2 d = some (exd d fs) ∧ H d = none ∧ Q (.ref C) (some d) (upd (del H2 a) d (.xd fs))) (fun _ _ _ => False) := by
  refine ⟨(by show 2 ≤ 1000; decide), fun a na => ⟨a, C, v, u, rfl, T, hf, hg, upd_same, fun dx n ne => ?_⟩⟩
  have n' : H dx = none := by
    rw [upd_ne ne] at n
    exact n
  refine ⟨rfl, dx, [(g, u), (f, v)], ?_, upd_same, n', q dx _ (upd_del_same na n' fun b o hb e => ?_) n' upd_same⟩
  · rw [upd_ne (Ne.symm ne), upd_same]
  · rw [upd_ne (ne_of_none e n'), upd_ne hb, upd_ne (ne_of_none e n'), upd_ne hb]
    exact e
end

/-! ### lists of new tuples, as data -/
theorem sqt_mono {K : PySem.W.Frag} {H H' : Hp} {a : Addr} {xs : List V} (e : Same H H') (h : SqT K H a xs) : SqT K H' a xs := by
  rcases h with (h | ⟨o, h⟩) | h
  · exact .inl (.inl (e _ _ h))
  · exact .inl (.inr ⟨o, e _ _ h⟩)
  · exact .inr h
mutual
theorem dp_mono {K : PySem.W.Frag} {H H' : Hp} (s : Same H H') : ∀ (d : PyData) (v : V), Dp K H v d → Dp K H' v d
  | .none, _, h => by cases h; exact .non
  | .bool b, _, h => by cases h; exact .bl b
  | .int i, _, h => by cases h; exact .int i
  | .str x, _, h => by cases h; exact .str x
  | .list ds, _, h => by
    cases h with
    | lst hs ha => exact .lst (s.seq hs) (dpa_mono s ds _ ha)
  | .tuple ds, _, h => by
    cases h with
    | tup hs ha => exact .tup (sqt_mono s hs) (dpa_mono s ds _ ha)
  | .dict _, _, h => by cases h
theorem dpa_mono {K : PySem.W.Frag} {H H' : Hp} (s : Same H H') : ∀ (ds : List PyData) (vs : List V), DpAll K H vs ds → DpAll K H' vs ds
  | [], _, h => by cases h; exact .nil
  | d :: ds, _, h => by
    cases h with
    | cons h1 h2 => exact .cons (dp_mono s d _ h1) (dpa_mono s ds _ h2)
end
theorem dpa_snoc {K : PySem.W.Frag} {H : Hp} {v : V} {d : PyData} : ∀ {ds : List PyData} {vs : List V}, DpAll K H vs ds → Dp K H v d → DpAll K H (vs ++ [v]) (ds ++ [d])
  | [], _, h, k => by cases h; exact .cons k .nil
  | e :: ds, _, h, k => by
    cases h with
    | cons h1 h2 => exact .cons h1 (dpa_snoc h2 k)
/-- the list at D (new since H) holds xs, data ds that stand without it -/
structure Gh (K : PySem.W.Frag) (H : Hp) (D : Addr) (H' : Hp) (xs : List V) (ds : List PyData) : Prop where
  ex : ∃ G : Hp, Same H G ∧ G D = none ∧ Same G H' ∧ DpAll K G xs ds
  here : H' D = some (.lst xs)
theorem Gh.start {K : PySem.W.Frag} {H : Hp} {D : Addr} (n : H D = none) : Gh K H D (upd H D (.lst [])) [] [] := ⟨⟨H, Same.refl H, n, same_new (Same.refl H) n, .nil⟩, upd_same⟩
theorem Gh.same {K : PySem.W.Frag} {H H' : Hp} {D : Addr} {xs : List V} {ds : List PyData} (g : Gh K H D H' xs ds) : Same H H' := let ⟨_, a, _, b, _⟩ := g.ex; a.trans b
theorem Gh.data {K : PySem.W.Frag} {H H' : Hp} {D : Addr} {xs : List V} {ds : List PyData} (g : Gh K H D H' xs ds) : Dp K H' (.ref D) (.list ds) := let ⟨_, _, _, b, c⟩ := g.ex; .lst (SqL.of g.here) (dpa_mono b _ _ c)
theorem Gh.grow {K : PySem.W.Frag} {H H' H2 : Hp} {D : Addr} {xs : List V} {ds : List PyData} (g : Gh K H D H' xs ds) (s : Same H' H2) : Gh K H D H2 xs ds := let ⟨G, a, n, b, c⟩ := g.ex; ⟨⟨G, a, n, b.trans s, c⟩, s _ _ g.here⟩
theorem Gh.add {K : PySem.W.Frag} {H H' : Hp} {D : Addr} {xs : List V} {ds : List PyData} {v : V} {d : PyData} (g : Gh K H D H' xs ds) (k : ∀ G : Hp, Dp K G v d) : Gh K H D (upd H' D (.lst (xs ++ [v]))) (xs ++ [v]) (ds ++ [d]) := by
  obtain ⟨G, a, n, b, c⟩ := g.ex
  refine ⟨⟨G, a, n, fun z o e => ?_, dpa_snoc c (k G)⟩, upd_same⟩
  rw [upd_ne (ne_of_none e n)]
  exact b z o e
theorem Gh.pair {K : PySem.W.Frag} {H H' : Hp} {D T : Addr} {xs vs : List V} {ds es : List PyData} (g : Gh K H D H' xs ds) (nT : H' T = none) (k : ∀ G : Hp, DpAll K G vs es) :
    Gh K H D (upd (upd H' T (.tup vs)) D (.lst (xs ++ [.ref T]))) (xs ++ [.ref T]) (ds ++ [.tuple es]) := by
  obtain ⟨G, a, n, b, c⟩ := g.ex
  have gT : G T = none := b.free nT
  have ne : T ≠ D := fun z => by rw [z, g.here] at nT; cases nT
  have s1 : Same G (upd G T (.tup vs)) := same_new (Same.refl G) gT
  refine ⟨⟨upd G T (.tup vs), a.trans s1, (upd_ne (Ne.symm ne)).trans n, fun z o e => ?_, dpa_snoc (dpa_mono s1 _ _ c) (.tup (SqT.of upd_same) (k _))⟩, upd_same⟩
  by_cases hz : z = T
  · subst hz
    rw [upd_same] at e
    rw [upd_ne ne, upd_same]
    exact e
  · rw [upd_ne hz] at e
    rw [upd_ne (ne_of_none e n), upd_ne hz]
    exact b z o e

/-! ### data of lists, item by item -/
theorem dpa_len {K : PySem.W.Frag} {H : Hp} : ∀ {ds : List PyData} {vs : List V}, DpAll K H vs ds → vs.length = ds.length
  | [], _, h => by cases h; rfl
  | d :: ds, _, h => by
    cases h with
    | cons h1 h2 => rw [List.length_cons, List.length_cons, dpa_len h2]
theorem dpa_at {K : PySem.W.Frag} {H : Hp} : ∀ {ds : List PyData} {vs : List V} {i : Nat} {v : V}, DpAll K H vs ds → vs[i]? = some v → ∃ d, ds[i]? = some d ∧ Dp K H v d
  | [], _, _, _, h, e => by cases h; simp at e
  | d :: ds, _, i, v, h, e => by
    cases h with
    | cons h1 h2 =>
      cases i with
      | zero => exact ⟨d, rfl, by simp at e; rw [← e]; exact h1⟩
      | succ i =>
        obtain ⟨d2, e2, k⟩ := dpa_at h2 (i := i) (by simpa using e)
        exact ⟨d2, by simpa using e2, k⟩
theorem dpa_get {K : PySem.W.Frag} {H : Hp} : ∀ {ds : List PyData} {vs : List V} {i : Nat} {d : PyData}, DpAll K H vs ds → ds[i]? = some d → ∃ v, vs[i]? = some v ∧ Dp K H v d
  | [], _, _, _, h, e => by simp at e
  | d :: ds, _, i, v, h, e => by
    cases h with
    | cons h1 h2 =>
      cases i with
      | zero => exact ⟨_, rfl, by simp at e; rw [← e]; exact h1⟩
      | succ i =>
        obtain ⟨v, e2, k⟩ := dpa_get h2 (i := i) (by simpa using e)
        exact ⟨v, by simpa using e2, k⟩
theorem dp_tup {K : PySem.W.Frag} {H : Hp} {v : V} {ds : List PyData} (h : Dp K H v (.tuple ds)) : ∃ T vs, v = .ref T ∧ SqT K H T vs ∧ DpAll K H vs ds := by
  cases h with
  | tup hs ha => exact ⟨_, _, rfl, hs, ha⟩
theorem dp_lst {K : PySem.W.Frag} {H : Hp} {v : V} {ds : List PyData} (h : Dp K H v (.list ds)) : ∃ T vs, v = .ref T ∧ SqL K H T vs ∧ DpAll K H vs ds := by
  cases h with
  | lst hs ha => exact ⟨_, _, rfl, hs, ha⟩
theorem dp_int {K : PySem.W.Frag} {H : Hp} {v : V} {i : Int} (h : Dp K H v (.int i)) : v = .int i := by cases h; rfl
theorem dp_str {K : PySem.W.Frag} {H : Hp} {v : V} {x : Str} (h : Dp K H v (.str x)) : v = .str x := by cases h; rfl
theorem dpa_ints {K : PySem.W.Frag} {H : Hp} : ∀ (zs : List Int), DpAll K H (vI zs) (zs.map .int)
  | [] => .nil
  | z :: zs => .cons (.int z) (dpa_ints zs)
/-! ### a pair as the target of a comprehension -/
theorem pg_tupK {X : Cx} {K : PySem.W.Frag} {pos : Pos} {es : List Expr} {k : Nat} {t : TGs} {n : Nat} (hK : X.K = K) (hc : X.calm = true) (h : PGs X es t) (h1 : (assignEach es X.env).length = n := by rfl)
    (h2 : List.findIdx? (fun x => x.fst) (assignEach es X.env) = none := by rfl) : PG X (Expr.Tuple es k pos) (gTup K n t) := hK ▸ pg_tup hc h h1 h2
theorem Gh.all {K : PySem.W.Frag} {H H' : Hp} {D : Addr} {xs : List V} {ds : List PyData} (g : Gh K H D H' xs ds) : DpAll K H' xs ds := let ⟨_, _, _, b, c⟩ := g.ex; dpa_mono b _ _ c
/-- a new tuple whose data are known -/
theorem Gh.tup {K : PySem.W.Frag} {H H' : Hp} {D p : Addr} {xs : List V} {ds : List PyData} (g : Gh K H D H' xs ds) (n : H' p = none) : DpAll K (upd H' p (.tup xs)) xs ds := let ⟨_, _, _, b, c⟩ := g.ex; dpa_mono (b.trans (same_new (Same.refl _) n)) _ _ c
/-- a static method as it stands in its class -/
theorem smet_of {K : PySem.W.Frag} {C p g : Addr} {m : Str} {r : List Value} (h0 : PySem.W.findIn K (.type "type") m = some none) (h1 : PySem.W.findIn K (.ref C) m = some (some (.ref p))) (h2 : PySem.W.typeIn K (.ref p) = some (.type "staticmethod"))
    (h3 : PySem.W.specialIn K (.ref p) "__get__" = some (some (.builtin "staticmethod.__get__"))) (h4 : PySem.W.recIn K p "staticmethod" = some (.ref g :: r)) (h5 : PySem.W.keepIn K (.ref g) = true) : SMet K C (.type "type") m p g := by
  refine ⟨?_, ⟨r, h4⟩, h5⟩
  unfold PySem.W.findCls
  rw [h0]
  simp only [Option.bind_some]
  rw [h1]
  simp only [Option.bind_some]
  rw [if_neg (by intro h; cases h), h2]
  simp only [Option.bind_some]
  rw [if_neg (by decide +kernel), h3]
  rfl
/-- the call of a static method whose exceptions meet a wish that looks at the slots -/
def tStatS (C : Addr) (sp : Sp) (E : L2.St → XK) (ta : TE) (t : TA) : TE := fun σ H Q => ta σ H fun x H1 => x = .ref C ∧ t σ H1 fun vs H2 => sp vs H2 Q (E σ)
section
variable {X : Cx} {CX : CXT} {n : Nat} {C p g : Addr} {mc : Value} {fd : FuncData} {ps : List Str} {sp : Sp} {E : L2.St → XK} {m : Str} {apos pos : Pos} {o e : Expr} {es : List Expr} {ta : TE} {t : TA}
theorem pe_statS {pl : Sem Bool} (cls : PE X o ta) (r : ClX.CRead X.K C mc) (M : SMet X.K C mc m p g) (F : FnOk X.prog X.w X.K X.mg X.base CX n g fd ps sp) (room : Room n X.A) (hb : L2.Binds X.K fd ps []) (esc : ∀ σ, PassesAt CX X σ (E σ)) (ha : PA X (e :: es) t)
    (hst : starEach (e :: es) X.env = (false, eval e X.env) :: starEach es X.env := by rfl) (hpl : (backTo pos (starEach es X.env)).any (·.1) = false := by rfl)
    (ht : eval (.Call (.Attribute o m apos) (e :: es) [] pos) X.env = (do let y ← eval o X.env; standAt apos.atName; let (g, first) ← holding [y] (getMethod y m pl); callWith pos g first (backTo pos (starEach (e :: es) X.env)) (backToKw pos (keywordEach [] X.env))) := by rfl) :
    PE X (.Call (.Attribute o m apos) (e :: es) [] pos) (tStatS C sp E ta t) := by
  refine ⟨fun pins s σ H Q J h => PySem.W.methodCall_KW (pl := pl) (thn (cls.run pins s σ H _ J h) fun u s1 ⟨y, H1, J1, ru, ey, q⟩ => ?_) ht⟩
  subst ey
  cases ru
  refine getstat_ok J1 r M fun s2 J2 => PySem.W.callWith_K (first := []) (h₀ := X.base) J.ok.mod.kin M.kept (thn (ha.run pos pins s2 σ H1 _ J2 q) fun us s3 ⟨ws, H2, J3, rw', q2⟩ => ⟨J3.kIn, ?_⟩) hst hpl
  exact run_fnS (us := us) (vs := ws) F room hb (esc σ) J3 rw' q2
end

/-! ### data that may be compared: no dict, low codes, not deep -/
def okD : Nat → PyData → Bool
  | _, .none => true
  | _, .bool _ => true
  | _, .int _ => true
  | _, .str s => PyData.strOk s
  | n + 1, .list ds => ds.all (okD n)
  | n + 1, .tuple ds => ds.all (okD n)
  | _, _ => false
theorem okA_all {n : Nat} : ∀ ds : List PyData, (∀ d ∈ ds, d.canLay0 = true ∧ d.depth ≤ n ∧ d.eqv d = true) → PyData.canLayAll0 ds = true ∧ PyData.depthAll ds ≤ n ∧ PyData.eqvAll ds ds = true
  | [], _ => ⟨rfl, Nat.zero_le _, rfl⟩
  | d :: ds, h => by
    obtain ⟨a, b, c⟩ := okA_all ds fun e he => h e (List.mem_cons_of_mem _ he)
    obtain ⟨a1, b1, c1⟩ := h d List.mem_cons_self
    refine ⟨?_, ?_, ?_⟩
    · rw [PyData.canLayAll0, a1, a]; rfl
    · rw [PyData.depthAll]; omega
    · rw [PyData.eqvAll, c1, c]; rfl
theorem okD_all : ∀ (n : Nat) (d : PyData), okD n d = true → d.canLay0 = true ∧ d.depth ≤ n ∧ d.eqv d = true := by
  intro n
  induction n with
  | zero =>
    intro d h
    cases d with
    | none => exact ⟨rfl, Nat.le_refl _, rfl⟩
    | bool b => exact ⟨rfl, Nat.le_refl _, by rw [PyData.eqv]; simp⟩
    | int i => exact ⟨rfl, Nat.le_refl _, by rw [PyData.eqv]; simp⟩
    | str s => exact ⟨by rw [PyData.canLay0]; exact h, Nat.le_refl _, by rw [PyData.eqv]; simp⟩
    | list ds => exact absurd h (by simp [okD])
    | tuple ds => exact absurd h (by simp [okD])
    | dict ds => exact absurd h (by simp [okD])
  | succ n ih =>
    intro d h
    cases d with
    | none => exact ⟨rfl, Nat.zero_le _, rfl⟩
    | bool b => exact ⟨rfl, Nat.zero_le _, by rw [PyData.eqv]; simp⟩
    | int i => exact ⟨rfl, Nat.zero_le _, by rw [PyData.eqv]; simp⟩
    | str s => exact ⟨by rw [PyData.canLay0]; exact h, Nat.zero_le _, by rw [PyData.eqv]; simp⟩
    | list ds =>
      obtain ⟨a, b, c⟩ := okA_all (n := n) ds fun d hd => ih d (List.all_eq_true.mp h d hd)
      exact ⟨by rw [PyData.canLay0]; exact a, by rw [PyData.depth]; omega, by rw [PyData.eqv]; exact c⟩
    | tuple ds =>
      obtain ⟨a, b, c⟩ := okA_all (n := n) ds fun d hd => ih d (List.all_eq_true.mp h d hd)
      exact ⟨by rw [PyData.canLay0]; exact a, by rw [PyData.depth]; omega, by rw [PyData.eqv]; exact c⟩
    | dict ds => exact absurd h (by simp [okD])
theorem ok_shaped {d : PyData} (h : okD 4 d = true) : SeqAt.shaped d = true := by
  obtain ⟨a, b, _⟩ := okD_all 4 d h
  unfold SeqAt.shaped
  rw [a, decide_eq_true (by omega)]
  rfl
theorem ok_eqv {d : PyData} (h : okD 4 d = true) : d.eqv d = true := (okD_all 4 d h).2.2
/-- the same data: nothing is unlike -/
theorem neD_same {K : PySem.W.Frag} {H : Hp} {x y : V} {Q : VK} {d : PyData} (a : Dp K H x d) (b : Dp K H y d) (h : okD 4 d = true) (q : Q (.bl false) H) : rNeD K x y H Q :=
  ⟨d, d, a, b, ok_shaped h, ok_shaped h, by rw [ok_eqv h]; exact q⟩
theorem eqD_same {K : PySem.W.Frag} {H : Hp} {x y : V} {Q : VK} {d : PyData} (a : Dp K H x d) (b : Dp K H y d) (h : okD 4 d = true) (q : Q (.bl true) H) : rEqD K x y H Q :=
  ⟨d, d, a, b, ok_shaped h, ok_shaped h, by rw [ok_eqv h]; exact q⟩
theorem ok_map {α : Type} {n : Nat} {f : α → PyData} (h : ∀ z, okD n (f z) = true) (zs : List α) : okD (n + 1) (.list (zs.map f)) = true ∧ okD (n + 1) (.tuple (zs.map f)) = true := by
  have : (zs.map f).all (okD n) = true := by
    rw [List.all_map, List.all_eq_true]
    exact fun z _ => h z
  exact ⟨this, this⟩
theorem ok_mem {α : Type} {n : Nat} {f : α → PyData} (zs : List α) (h : ∀ z ∈ zs, okD n (f z) = true) : okD (n + 1) (.list (zs.map f)) = true ∧ okD (n + 1) (.tuple (zs.map f)) = true := by
  have : (zs.map f).all (okD n) = true := by
    rw [List.all_map, List.all_eq_true]
    exact fun z hz => h z hz
  exact ⟨this, this⟩
theorem ok_ints (zs : List Int) : okD 4 (.list (zs.map .int)) = true ∧ okD 4 (.tuple (zs.map .int)) = true := ok_map (fun _ => rfl) zs

/-! ### all words of a size, as a list -/
/-- all ways of m steps from height h to height 0 -/
def ways : Nat → Nat → List (List Nat)
  | 0, 0 => [[]]
  | 0, _ + 1 => []
  | m + 1, h => (if h + 1 ≤ m then (ways m (h + 1)).map (List.cons 100) else []) ++ (match h with
    | 0 => []
    | k + 1 => (ways m k).map (List.cons 111))
theorem ways_len : ∀ {m h : Nat}, m < h → ways m h = []
  | 0, 0, e => absurd e (by omega)
  | 0, h + 1, _ => rfl
  | m + 1, h, e => by
    unfold ways
    rw [if_neg (by omega)]
    cases h with
    | zero => omega
    | succ k => simp [ways_len (m := m) (h := k) (by omega)]
theorem in_ways : ∀ (l : List Nat) (h : Nat), (∀ c ∈ l, c = 100 ∨ c = 111) → (∀ k, k ≤ l.length → (l.take k).count 111 ≤ h + (l.take k).count 100) → h + l.count 100 = l.count 111 → l ∈ ways l.length h
  | [], h, _, _, e => by
    have : h = 0 := by simpa using e
    subst this
    exact List.mem_singleton.mpr rfl
  | x :: r, h, al, ah, e => by
    have ar : ∀ c ∈ r, c = 100 ∨ c = 111 := fun c hc => al c (List.mem_cons_of_mem _ hc)
    have tot : r.count 100 + r.count 111 = r.length := by
      clear e ah al
      induction r with
      | nil => rfl
      | cons y s ih =>
        have := ih fun c hc => ar c (List.mem_cons_of_mem _ hc)
        rw [List.count_cons, List.count_cons, List.length_cons]
        rcases ar y List.mem_cons_self with z | z <;> subst z <;> simp <;> omega
    rw [List.length_cons]
    unfold ways
    rw [List.count_cons, List.count_cons] at e
    rcases al x List.mem_cons_self with z | z
    · subst z
      simp at e
      refine List.mem_append.mpr (.inl ?_)
      rw [if_pos (by omega)]
      refine List.mem_map.mpr ⟨r, in_ways r (h + 1) ar (fun k hk => ?_) (by omega), rfl⟩
      have a := ah (k + 1) (by rw [List.length_cons]; omega)
      rw [List.take_succ_cons, List.count_cons, List.count_cons] at a
      simp at a
      omega
    · subst z
      simp at e
      have a1 := ah 1 (by rw [List.length_cons]; omega)
      simp at a1
      obtain ⟨k, rfl⟩ : ∃ k, h = k + 1 := ⟨h - 1, by omega⟩
      refine List.mem_append.mpr (.inr ?_)
      refine List.mem_map.mpr ⟨r, in_ways r k ar (fun j hj => ?_) (by omega), rfl⟩
      have a := ah (j + 1) (by rw [List.length_cons]; omega)
      rw [List.take_succ_cons, List.count_cons, List.count_cons] at a
      simp at a
      omega
/-- all words of the sizes 1 to 6 -/
def allWords : List (List Nat) := ways 2 0 ++ (ways 4 0 ++ (ways 6 0 ++ (ways 8 0 ++ (ways 10 0 ++ ways 12 0))))
theorem Good.all {l : List Nat} {n : Nat} (g : Good l n) (h1 : 1 ≤ n) (h6 : n ≤ 6) : l ∈ allWords := by
  have m : l ∈ ways l.length 0 := in_ways l 0 g.ltr (fun k hk => by have := g.ahead k hk; omega) (by have := ltr_count g.ltr; have := g.len; have := g.cnt; omega)
  rw [g.len] at m
  unfold allWords
  have : n = 1 ∨ n = 2 ∨ n = 3 ∨ n = 4 ∨ n = 5 ∨ n = 6 := by omega
  rcases this with e | e | e | e | e | e <;> subst e <;> simp only [List.mem_append] <;> simp [m]
/-- what a kernel run says of all words -/
theorem Good.by {l : List Nat} {n : Nat} (g : Good l n) (h1 : 1 ≤ n) (h6 : n ≤ 6) (f : List Nat → Bool) (e : allWords.all f = true) : f l = true := List.all_eq_true.mp e l (g.all h1 h6)
/-! ### runs, as the loop of the program finds them, and as the law does -/
def rsStep (l : List Nat) (z : List (List Nat × Nat × Nat) × Nat) (b : Nat) : List (List Nat × Nat × Nat) × Nat :=
  if b = l.length ∨ l[b]? ≠ l[z.2]? then (z.1 ++ [((l[z.2]?).toList, z.2, b - z.2)], b) else z
def rsI (l : List Nat) : Nat → List (List Nat × Nat × Nat) × Nat
  | 0 => ([], 0)
  | i + 1 => rsStep l (rsI l i) (i + 1)
theorem rsI_at (l : List Nat) (i : Nat) : (rsI l i).2 ≤ i := by
  induction i with
  | zero => exact Nat.le_refl _
  | succ i ih =>
    unfold rsI rsStep
    split
    · exact Nat.le_refl _
    · omega
theorem rsI_len (l : List Nat) (i : Nat) : (rsI l i).1.length ≤ i := by
  induction i with
  | zero => exact Nat.le_refl _
  | succ i ih =>
    unfold rsI rsStep
    split
    · rw [List.length_append]
      exact Nat.succ_le_succ ih
    · omega

/-! ### enumerate(text) -/
theorem pyIter_text {prog : Program} {w : World} {A : Around} {E : Value → Shared → Prop} {s : Shared} {x : Str} {t : Tok} {Q : Value → Shared → Prop}
    (h : Q (Value.ref s.heap.objs.size) { s with heap := s.heap.push { cls := Value.type (strIterType x), data := Data.fields #[Value.str x t, Value.int 0 0] } }) : wpAny (model prog w) A (pyIter (Value.str x t)) Q E s := by
  unfold strIterType at h
  cases ha : x.cps.all (· < 128)
  · rw [ha] at h
    exact wpAny_pyIter_wide ha h
  · rw [ha] at h
    exact wpAny_pyIter_ascii ha h
set_option maxHeartbeats 1000000 in
theorem enum_newS (x : Str) (t : Tok) : Meets (PySem.Builtin.«enumerate.__new__» ⟨[.type "enumerate", .str x t], []⟩) (fun _ R s => R (.ok (.ret (.ref (s.heap.push { cls := .type (strIterType x), data := .fields #[.str x t, .int 0 0] }).objs.size))) { s with heap := (s.heap.push { cls := .type (strIterType x), data := .fields #[.str x t, .int 0 0] }).push { cls := .type "enumerate", data := .fields #[.none, .bool false, .ref s.heap.objs.size, rawInt 0, .none, .none] } }) :=
  .of_wp fun prog w A R s post => by
    have hsub := sub_enumerate
    wp_walk using pyIter_text
    refine wpAny_stack_any fun st => wpAny_pure ?_
    split
    · rename_i c _ _ _ _ _
      cases (c == Value.type "enumerate")
      · wp_walk using pyIter_text
        exact ⟨_, rfl, post⟩
      · wp_walk using pyIter_text
        exact ⟨_, rfl, post⟩
    · wp_walk using pyIter_text
      exact ⟨_, rfl, post⟩
theorem call_enumS {prog : Program} {w : World} {A : Around} {E : Value → Shared → Prop} {s : Shared} {x : Str} {t : Tok} {Q : Value → Shared → Prop}
    (h : ∀ h', IsEnum h' (s.heap.objs.size + 1) s.heap.objs.size 0 .none → h'.IsStrIter s.heap.objs.size (strIterType x) x t 0 → (∀ b o, s.heap.get? b = some o → h'.get? b = some o) → Q (.ref (s.heap.objs.size + 1)) { s with heap := h' }) :
    wpAny (model prog w) A (call (.type "enumerate") [.str x t]) Q E s := by
  refine callType_new F.called_enumerate (by decide) (F.typeCall_enumerate_1 _) (F.newCall_enumerate_1 _) (fun obj => F.args_object_init_2 obj _) F.entry_enumerate_new (enum_newS x t) ?_
  have z1 : (s.heap.push { cls := .type (strIterType x), data := .fields #[.str x t, .int 0 0] }).objs.size = s.heap.objs.size + 1 := Heap.size_push ..
  show _ ∧ _
  rw [z1]
  have at2 := Heap.get?_push_size (s.heap.push { cls := .type (strIterType x), data := .fields #[.str x t, .int 0 0] }) (o := { cls := .type "enumerate", data := .fields #[.none, .bool false, .ref s.heap.objs.size, rawInt 0, .none, .none] }) rfl
  rw [z1] at at2
  exact ⟨⟨_, at2, rfl⟩, h _ at2 ⟨_, Heap.get?_push_of_some _ (Heap.get?_push_size _ rfl), rfl, rfl⟩ fun b o y => Heap.get?_push_of_some _ (Heap.get?_push_of_some _ y)⟩
/-- the text's letters, each in a new pair with its place -/
def IteS (x : Str) : It :=
  ⟨fun i _ => i < x.cps.size, fun i H v H' => ∃ T c, v = .ref T ∧ H T = none ∧ x.cps[i]? = some c ∧ H' = L2.upd H T (.tup [.int (i : Nat), .str ⟨#[c]⟩]), fun i _ => i = x.cps.size⟩
theorem turn_enumS {P : Program} {w : World} {K : PySem.W.Frag} {elts : List Expr} {kk : Nat} {tpos : Pos} (x : Str) (t : Tok) (e it : Addr) :
    Turn P w K (.Tuple elts kk tpos) (IteS x) [e, it] e (fun i h => (∃ old, IsEnum h e it ((i : Nat) : Int) old) ∧ h.IsStrIter it (strIterType x) x t i ∧ e ≠ it) where
  mem := by simp
  obj := fun i h ⟨⟨old, he⟩, ⟨o, ho, hc, hd⟩, _⟩ b hb => by
    rcases (show b = e ∨ b = it by simpa using hb) with z | z
    · rw [z]
      exact ⟨_, he, fun v q => nomatch q⟩
    · rw [z]
      exact ⟨o, ho, fun v q => by rw [hd] at q; cases q⟩
  keep := fun i h h' ⟨⟨old, he⟩, ⟨o, ho, r⟩, ne⟩ k => ⟨⟨old, k e (by simp) _ he⟩, ⟨o, k it (by simp) _ ho, r⟩, ne⟩
  item := by
    intro X hP hw hK calm i pins s σ H E I hf ⟨⟨old, he⟩, hit, ne⟩ hi
    subst hP hw hK
    have el := Heap.lt_size he
    have il : it < s.heap.objs.size := by obtain ⟨_, q, _⟩ := hit; exact Heap.lt_size q
    have D := PySem.Draws.text (prog := X.prog) (w := X.w) (A := X.A.in1) (I.ok.hd calm) it x t
    refine wpAny_pyNext_enum_itemD D he hit hi ne (by simp [ne]) fun v h' tk hv ho hit' hT hsz hk => ?_
    obtain ⟨c, u, hc, rfl⟩ := hv
    refine ⟨_, rfl, wpAny_letOwnedTupleGo_enum (s := { s with heap := h', toks := tk + 1 }) ho fun h2 he2 sb => ?_⟩
    have hT2 : h2.get? s.heap.objs.size = some { cls := .type "tuple", data := .seq #[.int i tk, .str ⟨#[c]⟩ u] } := (sb.2 _ (Nat.ne_of_gt el)).trans hT
    have new : ObjOk X.prog X.w (L2.upd H s.heap.objs.size (.tup [.int (i : Nat), .str ⟨#[c]⟩])) h2 s.heap.objs.size (.tup [.int (i : Nat), .str ⟨#[c]⟩]) :=
      ⟨by show 2 ≤ sizeLine; decide, [.int i tk, .str ⟨#[c]⟩ u], .cons ⟨_, rfl⟩ (.cons ⟨_, rfl⟩ .nil), ⟨_, hT2, rfl, _, rfl⟩⟩
    have I1 : L2.Inv X pins σ (L2.upd H s.heap.objs.size (.tup [.int (i : Nat), .str ⟨#[c]⟩])) { s with heap := h2, toks := tk + 1 } :=
      I.turnedNew (ch := [e, it]) (fun b ob hb q => (sb.2 b (fun z => hb (by simp [z]))).trans (hk b ob (fun z => hb (by simp [z])) (fun z => hb (by simp [z])) q)) hf (Nat.le_refl _) new
    refine ⟨.ref s.heap.objs.size, _, I1, rfl, ⟨_, c, rfl, I.hok.fresh (Nat.le_refl _), hc, rfl⟩, ⟨⟨.str ⟨#[c]⟩ u, ?_⟩, ?_, ne⟩, fun b hb => ?_⟩
    · rw [show ((i + 1 : Nat) : Int) = (i : Int) + 1 by omega]
      exact he2
    · obtain ⟨o, q, r⟩ := hit'
      exact ⟨o, (sb.2 it (Ne.symm ne)).trans q, r⟩
    · have lt : b < s.heap.objs.size := by
        rcases (show b = e ∨ b = it by simpa using hb) with z | z
        · exact z ▸ el
        · exact z ▸ il
      exact (upd_ne (Nat.ne_of_lt lt)).trans (hf b hb).1
  done := by
    intro X hP hw hK calm i pins s σ H E I hf ⟨⟨old, he⟩, hit, ne⟩ hx
    subst hP hw hK
    obtain ⟨f0, f1, f2, f3, f4, f5⟩ := hf it (by simp)
    have eT : s.TypeIs (.ref e) "enumerate" := ⟨_, he, rfl⟩
    obtain rfl : i = x.cps.size := hx
    unfold pyNext
    refine wpAny_bind (wpAny_attempt (wpAny_callSpecial?_slot (name := Str.ofString "__next__") eT F.slot_enumerate_next (wpAny_call_entry F.slot_enumerate_next eT F.entry_enumerate_next ?_ (F.args_enumerate_next_1 _))))
    show wpAny _ _ (field (.ref e) 2 >>= _) _ _ _
    refine wpAny_bind (wpAny_field he rfl (x := .ref it) rfl (wpAny_bind ((PySem.Draws.text (prog := X.prog) (w := X.w) (A := X.A.in1) (I.ok.hd calm) it x t).done _ _ _ hit fun h' er eb ⟨o, ho, hc⟩ => ?_)))
    exact wpAny_bind (wpAny_isInstance (T := "StopIteration") (b := true) ⟨o, ho, hc⟩ isSubtype_stop (wpAny_pure ⟨rfl, I.turned (t' := s.toks) (fun b o hb q => eb b o hb q) f0 f1 f3 f4 f5⟩))
  self := fun A i s Q E ⟨⟨_, he⟩, _⟩ h => wpAny_pyIter_enum he h
/-- enumerate(e), e a text -/
def iEnumS (ta : TA) : TI := fun σ H R => ta σ H fun vs H1 => ∃ x : Str, vs = [.str x] ∧ R (IteS x) H1
theorem pi_enumS {X : Cx} {e : Expr} {ta : TA} {p pos tpos : Pos} {elts : List Expr} {kk : Nat} (hg : Gl X "enumerate") (hm : X.mg "enumerate" = none) (ha : PA X [e] ta) (hs : starEach [e] X.env = [(false, eval e X.env)] := by rfl) :
    PI X (.Tuple elts kk tpos) (.Call (.Name "enumerate" p) [e] [] pos) (iEnumS ta) := by
  refine ⟨fun pins s σ H R I h => Call_ (ld_blt I hg hm boot_enumerate (PyProof.Rows.callWith_type1 (thn (ha.run pos pins s σ H _ I h) fun us s1 ⟨vs, H1, I1, r1, x, ex, q⟩ => ?_) hs rfl))⟩
  subst ex
  obtain ⟨u, rfl, ru⟩ := r1.one
  obtain ⟨t, rfl⟩ := ru
  have foot : ∀ b, b ∈ [s1.heap.objs.size + 1, s1.heap.objs.size] → FpOk X pins H1 b := fun b hb => by
    have le : s1.heap.objs.size ≤ b := by
      rcases (show b = s1.heap.objs.size + 1 ∨ b = s1.heap.objs.size by simpa using hb) with z | z
      · exact z ▸ Nat.le_succ _
      · exact z ▸ Nat.le_refl _
    exact I1.fpOk le (I1.hok.fresh le)
  exact call_enumS fun h' he hit hk => wpAny_pyIter_enum he ⟨_, _, _, _, H1, rfl, I1.kept (t' := s1.toks) hk, turn_enumS x t (s1.heap.objs.size + 1) s1.heap.objs.size, ⟨⟨.none, he⟩, hit, Nat.succ_ne_self _⟩, foot, q⟩
theorem walk_enumS {l : List Nat} : Walk (IteS (sOf l)) l.length (fun _ => True) (YPair (fun i => some (.int (i : Nat))) (fun i => (l[i]?).map fun c => V.str (sOf [c]))) := by
  refine ⟨fun i H hi _ => ?_, fun H _ => ?_, fun i H v H' _ _ y => ?_⟩
  · show i < (sOf l).cps.size
    simpa [sOf] using hi
  · show l.length = (sOf l).cps.size
    simp [sOf]
  · obtain ⟨T, c, e1, e2, e3, e4⟩ := y
    have e5 : l[i]? = some c := by simpa [sOf] using e3
    exact ⟨T, .int (i : Nat), .str (sOf [c]), e1, e2, e4, rfl, by
      show Option.map _ l[i]? = _
      rw [e5]
      rfl⟩

/-! ### lists of pairs of whole numbers -/
theorem Room.units65 {k : Nat} {A : Around} (h : Room k A) : A.units + 65 < cLine := by
  have := h.un
  omega
def mD (m : Nat × Nat) : PyData := .tuple [.int (m.1 : Nat), .int (m.2 : Nat)]
def mT (m : Nat × Nat) : HO := .tup [.int (m.1 : Nat), .int (m.2 : Nat)]
/-- xs are tuples that hold the pairs M -/
inductive Prs (H : Hp) : List V → List (Nat × Nat) → Prop where
  | nil : Prs H [] []
  | cons {T : Addr} {m : Nat × Nat} {xs : List V} {M : List (Nat × Nat)} (h : H T = some (mT m)) (r : Prs H xs M) : Prs H (.ref T :: xs) (m :: M)
theorem Prs.mono {H H' : Hp} (s : Same H H') : ∀ {xs M}, Prs H xs M → Prs H' xs M
  | _, _, .nil => .nil
  | _, _, .cons h r => .cons (s _ _ h) (r.mono s)
theorem Prs.len {H : Hp} : ∀ {xs M}, Prs H xs M → xs.length = M.length
  | _, _, .nil => rfl
  | _, _, .cons _ r => congrArg Nat.succ r.len
theorem Prs.snoc {H : Hp} {T : Addr} {m : Nat × Nat} (h : H T = some (mT m)) : ∀ {xs M}, Prs H xs M → Prs H (xs ++ [.ref T]) (M ++ [m])
  | _, _, .nil => .cons h .nil
  | _, _, .cons h2 r => .cons h2 (r.snoc h)
theorem Prs.at {H : Hp} : ∀ {xs M} {i : Nat} {x : V}, Prs H xs M → xs[i]? = some x → ∃ T m, x = .ref T ∧ M[i]? = some m ∧ H T = some (mT m)
  | _, _, _, _, .nil, e => by simp at e
  | _, _, 0, _, .cons (T := T) (m := m) h _, e => ⟨T, m, by simpa using e.symm, rfl, h⟩
  | _, _, i + 1, _, .cons _ r, e => by
    obtain ⟨T, m, a, b, c⟩ := r.at (i := i) (by simpa using e)
    exact ⟨T, m, a, by simpa using b, c⟩
theorem Prs.data {K : PySem.W.Frag} {H : Hp} : ∀ {xs M}, Prs H xs M → DpAll K H xs (M.map mD)
  | _, _, .nil => .nil
  | _, _, .cons h r => .cons (.tup (SqT.of h) (.cons (.int _) (.cons (.int _) .nil))) r.data
theorem Prs.mem {H : Hp} : ∀ {xs M} {x : V}, Prs H xs M → x ∈ xs → ∃ T m, x = .ref T ∧ m ∈ M ∧ H T = some (mT m)
  | _, _, _, .nil, h => by simp at h
  | _, _, x, .cons (T := T) (m := m) h r, hx => by
    rcases List.mem_cons.mp hx with e | e
    · exact ⟨T, m, e, List.mem_cons_self, h⟩
    · obtain ⟨T2, m2, a, b, c⟩ := r.mem e
      exact ⟨T2, m2, a, List.mem_cons_of_mem _ b, c⟩
theorem Prs.keep {H H' : Hp} {D : Addr} {o : HO} (hD : ∀ m, H D ≠ some (mT m)) (b : ∀ c o, c ≠ D → H c = some o → H' c = some o) : ∀ {xs M}, Prs H xs M → Prs H' xs M
  | _, _, .nil => .nil
  | _, _, .cons (T := T) (m := m) h r => .cons (b _ _ (fun z => hD m (by rw [← z]; exact h)) h) (r.keep (o := o) hD b)
theorem Prs.perm {H : Hp} {xs ys : List V} (p : ys.Perm xs) : ∀ {M}, Prs H xs M → ∃ N, Prs H ys N ∧ N.Perm M := by
  induction p with
  | nil =>
    intro M h
    cases h
    exact ⟨[], .nil, .nil⟩
  | cons x p ih =>
    intro M h
    cases h with
    | cons h r =>
      obtain ⟨N, a, b⟩ := ih r
      exact ⟨_ :: N, .cons h a, b.cons _⟩
  | swap x y l =>
    intro M h
    cases h with
    | cons h r =>
      cases r with
      | cons h2 r => exact ⟨_ :: _ :: _, .cons h2 (.cons h r), .swap _ _ _⟩
  | trans p q ih1 ih2 =>
    intro M h
    obtain ⟨N, a, b⟩ := ih2 h
    obtain ⟨N2, a2, b2⟩ := ih1 a
    exact ⟨N2, a2, b2.trans b⟩
/-! `in` by data -/
def rInDT (K : PySem.W.Frag) : R2 := fun x y H Q => ∃ d ds, Dp K H x d ∧ Dp K H y (.tuple ds) ∧ SeqAt.shaped d = true ∧ SeqAt.shaped (.tuple ds) = true ∧ Q (.bl (ds.any fun z => PyData.eqv z d)) H
def rNotInDT (K : PySem.W.Frag) : R2 := fun x y H Q => ∃ d ds, Dp K H x d ∧ Dp K H y (.tuple ds) ∧ SeqAt.shaped d = true ∧ SeqAt.shaped (.tuple ds) = true ∧ Q (.bl (!ds.any fun z => PyData.eqv z d)) H
theorem op_inDT {X : Cx} {K : PySem.W.Frag} (hK : X.K = K) (hu : X.A.units + 65 < cLine) : OpR X (compareOp .In) (rInDT K) := by
  subst hK
  rintro pins s σ H x y v u Q I rx ry ⟨d, ds, hd, he, sd, se, q⟩
  obtain ⟨as, r1⟩ := Dp.reads I d x v hd rx
  obtain ⟨bs, r2⟩ := Dp.reads I (.tuple ds) y u he ry
  exact SeqAt.in_tuple_reads r2 r1 (SeqAt.canLay_of_shaped se) (SeqAt.canLay_of_shaped sd) (PyProof.Rows.room_in_shaped sd hu) ⟨.bl _, H, I, rfl, q⟩
theorem op_notInDT {X : Cx} {K : PySem.W.Frag} (hK : X.K = K) (hu : X.A.units + 65 < cLine) : OpR X (compareOp .NotIn) (rNotInDT K) := by
  subst hK
  rintro pins s σ H x y v u Q I rx ry ⟨d, ds, hd, he, sd, se, q⟩
  obtain ⟨as, r1⟩ := Dp.reads I d x v hd rx
  obtain ⟨bs, r2⟩ := Dp.reads I (.tuple ds) y u he ry
  exact SeqAt.notIn_tuple_reads r2 r1 (SeqAt.canLay_of_shaped se) (SeqAt.canLay_of_shaped sd) (PyProof.Rows.room_in_shaped sd hu) ⟨.bl _, H, I, rfl, q⟩
theorem op_inDK {X : Cx} {K : PySem.W.Frag} (hK : X.K = K) (hu : X.A.units + 65 < cLine) : OpR X (compareOp .In) (rInD K) := by
  subst hK
  exact op_inD hu
theorem op_notInDK {X : Cx} {K : PySem.W.Frag} (hK : X.K = K) (hu : X.A.units + 65 < cLine) : OpR X (compareOp .NotIn) (rNotInD K) := by
  subst hK
  exact op_notInD hu
theorem mD_eqv (a b : Nat × Nat) : PyData.eqv (mD a) (mD b) = decide (a = b) := by
  obtain ⟨a1, a2⟩ := a
  obtain ⟨b1, b2⟩ := b
  unfold mD
  rw [PyData.eqv, PyData.eqvAll, PyData.eqvAll, PyData.eqvAll, PyData.eqv, PyData.eqv]
  by_cases h1 : a1 = b1 <;> by_cases h2 : a2 = b2 <;> simp [h1, h2]
  all_goals omega
theorem any_mD (M : List (Nat × Nat)) (m : Nat × Nat) : ((M.map mD).any fun z => PyData.eqv z (mD m)) = decide (m ∈ M) := by
  rw [List.any_map]
  by_cases h : m ∈ M
  · rw [decide_eq_true h, List.any_eq_true]
    exact ⟨m, h, by show PyData.eqv _ _ = true; rw [mD_eqv]; simp⟩
  · rw [decide_eq_false h, List.any_eq_false]
    intro x hx z
    have z2 : PyData.eqv (mD x) (mD m) = true := z
    rw [mD_eqv] at z2
    exact h (by rw [← of_decide_eq_true z2]; exact hx)
theorem ok_mD (n : Nat) (m : Nat × Nat) : okD (n + 1) (mD m) = true := by
  unfold mD
  cases n <;> rfl
theorem ok_mDs (M : List (Nat × Nat)) : okD 4 (.list (M.map mD)) = true ∧ okD 4 (.tuple (M.map mD)) = true := ok_map (fun z => ok_mD 2 z) M
theorem shaped_mD (m : Nat × Nat) : SeqAt.shaped (mD m) = true := ok_shaped (ok_mD 3 m)
/-- a pair among the pairs -/
theorem inP {K : PySem.W.Frag} {H : Hp} {x : V} {p : Addr} {xs : List V} {M : List (Nat × Nat)} {m : Nat × Nat} {Q : VK} (hx : Dp K H x (mD m)) (hp : H p = some (.tup xs)) (hM : Prs H xs M) (q : Q (.bl (decide (m ∈ M))) H) : rInDT K x (.ref p) H Q :=
  ⟨_, _, hx, .tup (SqT.of hp) hM.data, shaped_mD m, ok_shaped (ok_mDs M).2, by rw [any_mD]; exact q⟩
theorem notInP {K : PySem.W.Frag} {H : Hp} {x : V} {p : Addr} {xs : List V} {M : List (Nat × Nat)} {m : Nat × Nat} {Q : VK} (hx : Dp K H x (mD m)) (hp : H p = some (.tup xs)) (hM : Prs H xs M) (q : Q (.bl (!decide (m ∈ M))) H) : rNotInDT K x (.ref p) H Q :=
  ⟨_, _, hx, .tup (SqT.of hp) hM.data, shaped_mD m, ok_shaped (ok_mDs M).2, by rw [any_mD]; exact q⟩
theorem inL {K : PySem.W.Frag} {H : Hp} {x : V} {p : Addr} {xs : List V} {M : List (Nat × Nat)} {m : Nat × Nat} {Q : VK} (hx : Dp K H x (mD m)) (hp : H p = some (.lst xs)) (hM : Prs H xs M) (q : Q (.bl (decide (m ∈ M))) H) : rInD K x (.ref p) H Q :=
  ⟨_, _, hx, .lst (SqL.of hp) hM.data, shaped_mD m, ok_shaped (ok_mDs M).1, by rw [any_mD]; exact q⟩
theorem notInL {K : PySem.W.Frag} {H : Hp} {x : V} {p : Addr} {xs : List V} {M : List (Nat × Nat)} {m : Nat × Nat} {Q : VK} (hx : Dp K H x (mD m)) (hp : H p = some (.lst xs)) (hM : Prs H xs M) (q : Q (.bl (!decide (m ∈ M))) H) : rNotInD K x (.ref p) H Q :=
  ⟨_, _, hx, .lst (SqL.of hp) hM.data, shaped_mD m, ok_shaped (ok_mDs M).1, by rw [any_mD]; exact q⟩

/-! ### isinstance of a caught error that has a dict -/
theorem chk_ga {prog : Program} {w : World} {A : Around} {E : Value → Shared → Prop} {s : Shared} {x : Addr} {nm : Str} {t : Tok} {Q : Unit → Shared → Prop} (sub : PySem.W.Looks (model prog w) s.heap (isInstance (Value.ref x) (Value.type "BaseException")) true) (h : Q () s) :
    wpAny (model prog w) A (checkBuiltinCall "BaseException.__getattribute__" { pos := [Value.ref x, Value.str nm t] }) Q E s :=
  @PySem.W.check_slot (model prog w) A E s "BaseException.__getattribute__" "BaseException" "__getattribute__" (Value.ref x) [Value.str nm t] [] Q PySem.W.kin_classE._proof_2 PySem.W.kin_classE._proof_3 sub (F.args_bexc_ga (Value.ref x) (Value.str nm t)) h
set_option maxHeartbeats 400000 in
theorem kin_classX {prog : Program} {w : World} {A : Around} {E : Value → Shared → Prop} {s : Shared} {K : PySem.W.Frag} {x D : Addr} {ox o : Obj} {Q : Option Value → Shared → Prop} (C : ExcC K D) (X : K.In s.heap) (I : PySem.W.InstAt s.heap x ox D (some o))
    (h : Q (some (Value.ref D)) { s with toks := s.toks + 1 }) : wpAny (model prog w) A (getAttr? (Value.ref x) (Str.ofString "__class__")) Q E s := by
  have hf := PySem.W.findObj_data (K := K) (C := D) (od := o) (name := Str.ofString "__class__") (by obtain ⟨cd, hc, _⟩ := PySem.W.any_some C.hd; rw [hc]; rfl) C.ha C.hn C.ht
  obtain ⟨hp, g, d, t, os⟩ := s
  have L0 := PySem.W.InstAt.type (M := model prog w) I
  have L1 := PySem.W.looks_findIn (M := model prog w) X C.hg
  have L2 := PySem.W.looks_findIn (M := model prog w) X C.hk
  have L3 := PySem.W.looks_find (M := model prog w) X I hf
  have sub : PySem.W.Looks (model prog w) hp (isInstance (Value.ref x) (Value.type "BaseException")) true := PySem.W.Looks.andThen L0 (PySem.W.looks_subIn X C.hs)
  unfold getAttr?
  refine wpAny_bind (wpAny_mkText ?_)
  unfold getAttrBy?
  refine wpAny_bind (wpAny_attempt (wpAny_holding ?_))
  refine wpAny_bind (PySem.W.Looks.at L0 (wpAny_bind (PySem.W.Looks.at L1 ?_)))
  have hx2 : (Value.builtin "BaseException.__getattribute__" == Value.builtin "object.__getattribute__") = false := by decide
  have hx1 : (onTheHeap (Value.ref D) && (Value.builtin "BaseException.__getattribute__" == Value.builtin "object.__getattribute__")) = false := by rw [hx2]; rfl
  dsimp only
  rw [hx1, if_neg Bool.false_ne_true]
  unfold getAttrByItsOwn
  refine wpAny_bind ?_
  unfold hookBefore
  rw [if_pos (show onTheHeap (Value.ref D) = true from rfl)]
  refine PySem.W.Looks.at L2 (wpAny_bind (wpAny_attempt (wpAny_holding ?_)))
  unfold callGetattribute
  rw [if_neg (show ¬ (false && onTheHeap (Value.builtin "BaseException.__getattribute__")) = true from Bool.false_ne_true)]
  unfold boundAndCalled
  rw [F.excAttr_ValueError.ga.bind (Value.ref x)]
  refine wpAny_bind (wpAny_pure ?_)
  show wpAny (model prog w) A (call (Value.builtin "BaseException.__getattribute__") [Value.ref x, Value.str (Str.ofString "__class__") t]) _ _ _
  refine wpAny_call (codeAny_call_builtin F.excAttr_ValueError.ga.plain F.entry_bexc_ga ?_)
  refine chk_ga sub ?_
  unfold Builtin.«object.__getattribute__»
  refine wpAny_bind (m := slotArgs "__getattribute__" 1 { pos := [Value.ref x, Value.str (Str.ofString "__class__") t] }) (wpAny_of_eq (a := (Value.ref x, [Value.str (Str.ofString "__class__") t])) (by kernel_rfl!) ?_)
  dsimp only
  refine wpAny_bind (m := Builtin.ObjectAttr.attrName (Value.str (Str.ofString "__class__") t)) (wpAny_of_eq (a := Str.ofString "__class__") (by rfl) ?_)
  refine wpAny_bind (PySem.W.Looks.at L0 (wpAny_bind (PySem.W.Looks.at L3 ?_)))
  dsimp only
  unfold Builtin.ObjectAttr.bindTo
  refine wpAny_bind ?_
  refine wpAny_holding (wpAny_call (PySem.W.class_get X I C.hm ?_))
  refine wpAny_pure ?_
  show wpAny (model prog w) A (handedOut (Value.ref D)) _ _ _
  rw [PySem.W.handedOut_of (v := Value.ref D) rfl]
  exact wpAny_pure (wpAny_pure h)
theorem cls_lookup {K : PySem.W.Frag} {D : Addr} (hd : PySem.W.hasDictIn K D = true) : ∃ cls dict cd slots, K.lookup D = some ⟨cls, dict, .cls cd, slots⟩ := by
  obtain ⟨cd, hc, _⟩ := PySem.W.any_some hd
  unfold PySem.W.clsIn at hc
  split at hc
  · rename_i c d cd2 sl he
    exact ⟨c, d, cd2, sl, he⟩
  · cases hc
theorem kitx_excX {K : PySem.W.Frag} {x D : Addr} {ox o : Obj} (C : ExcC K D) : PySem.W.KitX K (Value.ref x) (Value.ref D) (fun h => PySem.W.InstAt h x ox D (some o)) := by
  obtain ⟨cls, dict, cd, slots, he⟩ := cls_lookup C.hd
  refine ⟨fun M h X I => PySem.W.InstAt.type I, fun M h X I => ?_, fun h tp dd its n sl X htp => ?_, fun X I q => kin_classX C X I q⟩
  · intro A' Q' E' s' k q
    show wpAny M A' (loadPart _ _ >>= _) _ _ _
    exact wpAny_bind (wpAny_loadPart (k D _ (X D _ he)) (wpAny_pure q))
  · refine Bool.eq_false_iff.mpr fun q => ?_
    have e := Value.ref.inj (beq_iff_eq.mp q)
    subst e
    have z := (X D _ he).symm.trans htp
    cases z
/-- isinstance(e, C), e caught, its attributes in a dict -/
def rIsX (K : PySem.W.Frag) (a : Addr) (cls : Value) (d : Option Addr) : List V → Hp → VK → Prop := fun xs H Q => ∃ (c : V) (u : Value) (D dd : Addr) (fs : List (Str × V)) (b : Bool), xs = [.ref a, c] ∧ ClsV c u ∧ cls = .ref D ∧ ExcC K D ∧ d = some dd ∧ H dd = some (.xd fs) ∧
  PySem.W.kitOne K (.ref D) u = some b ∧ Q (.bl b) H
theorem xd_some {P : Program} {w : World} {H : Hp} {h : Heap} {d : Addr} {fs : List (Str × V)} (z : ObjOk P w H h d (.xd fs)) : ∃ o, h.get? d = some o := by
  unfold ObjOk at z
  obtain ⟨mA, hn, _⟩ := z
  obtain ⟨o, _, _, ho, _⟩ := hn
  exact ⟨o, ho⟩
theorem call_isX {X : Cx} {K : PySem.W.Frag} {a : Addr} {cls : Value} {d : Option Addr} {oe : Obj} {pn : List (Addr × Obj)} (hK : X.K = K) (hz : Zc cls d oe) (hf : ∃ vs, oe.data = Data.fields vs) :
    CallR (X.suite a ((a, oe) :: pn)) (.builtin "isinstance") (rIsX K a cls d) := by
  subst hK
  intro pins s σ H xs us Q I r h
  obtain ⟨c, u, D, dd, fs, b, rfl, cv, rfl, C, rfl, ed, kb, q⟩ := h
  cases r with
  | cons rx rr =>
    cases rr with
    | cons rt r2 =>
      cases r2
      cases rx
      rename_i cu
      obtain rfl : cu = u := by
        cases cv with
        | ty n => first | exact rt | exact rt.symm
        | own c => first | exact rt | exact rt.symm
      obtain ⟨hget, _⟩ := I.pin (a, oe) (List.mem_append.mpr (.inl List.mem_cons_self))
      obtain ⟨o, ho⟩ := xd_some (I.hok dd _ ed)
      obtain ⟨vs, hv⟩ := hf
      have J : PySem.W.InstAt s.heap a oe D (some o) := by
        obtain ⟨oc, od, oda, osl⟩ := oe
        obtain ⟨h1, h2⟩ := hz
        cases h1
        cases h2
        cases hv
        exact ⟨hget, rfl, rfl, ho⟩
      exact PySem.W.kia_one (kitx_excX C) I.kIn J kb (fun z => nomatch z) fun tk => ⟨.bl b, H, I.kept (t' := tk) fun _ _ z => z, rfl, q⟩

/-! ### a def (or method) with defaults -/
structure FunV (K : PySem.W.Frag) (x qual : Str) (st : Stmt) (f : Addr) (fd : FuncData) : Prop where
  ex : ∃ (oc : Value) (od : Option Addr) (dV kV doc pm : Value) (an : Option Addr) (cdv ct : Value) (osl : Array (Option Value)),
    fd = PySem.W.fnOf x qual (defArgs st) (defBody st) (defScope st) dV kV doc pm an cdv ct ∧ K.lookup f = some ⟨oc, od, .func fd, osl⟩ ∧ PySem.W.codeIn K cdv qual = true
  kp : PySem.W.keepIn K (.ref f) = true
section
variable {P : Program} {w : World} {K : PySem.W.Frag} {mg : Str → Option Value} {base : Heap}
theorem FunV.ok {x qual : Str} {st : Stmt} {f : Addr} {fd : FuncData} {N ps : List Str} {k : Nat} {sp : Sp} (F : FunV K x qual st f fd) (S : FnScope N ps (defScope st)) (len : ∀ vs H Q E, sp vs H Q E → vs.length = ps.length)
    (hbody : ∀ (cdv : Value) (A : Around) (outer : List Env) (s : Shared) (H : Hp) (vs : List V) (Q : VK) (E : XK), Room k (A.deeper (envOfC qual (defScope st) s.heap.objs.size f cdv)) → sp vs H Q E →
      ∃ t, PSs (cxOf CX0 P w K mg base N qual (defScope st) f cdv A outer s H E).nox (defBody st) t ∧ t { nx := fun _ H' => Q .non H', rt := Q } (start N vs) H) : FnOk P w K mg base CX0 (k + 1) f fd ps sp := by
  obtain ⟨oc, od, dV, kV, doc, pm, an, cdv, ct, osl, rfl, lk, hcd⟩ := F.ex
  refine fn_of lk hcd S len fun A outer s H vs Q E hr hsp => ?_
  obtain ⟨t, h, q⟩ := hbody cdv A outer s H vs Q E hr hsp
  exact ⟨t, h.nox, q⟩
theorem FunV.okX {x qual : Str} {st : Stmt} {f : Addr} {fd : FuncData} {N ps : List Str} {k : Nat} {sp : Sp} (F : FunV K x qual st f fd) (S : FnScope N ps (defScope st)) (len : ∀ vs H Q E, sp vs H Q E → vs.length = ps.length)
    (hbody : ∀ (cdv : Value) (A : Around) (outer : List Env) (s : Shared) (H : Hp) (vs : List V) (Q : VK) (E : XK), Room k (A.deeper (envOfC qual (defScope st) s.heap.objs.size f cdv)) → sp vs H Q E →
      ∃ t, PSs (cxOf (L2.CX P w) P w K mg base N qual (defScope st) f cdv A outer s H E) (defBody st) t ∧ t { nx := fun _ H' => Q .non H', rt := Q } (start N vs) H) : FnOk P w K mg base (L2.CX P w) (k + 1) f fd ps sp := by
  obtain ⟨oc, od, dV, kV, doc, pm, an, cdv, ct, osl, rfl, lk, hcd⟩ := F.ex
  exact fn_of lk hcd S len fun A outer s H vs Q E hr hsp => hbody cdv A outer s H vs Q E hr hsp
theorem funV_mk {x qual : Str} {st : Stmt} {f : Addr} {oc : Value} {od an : Option Addr} {osl : Array (Option Value)} {dV kV doc pm cdv ct : Value} (l : K.lookup f = some ⟨oc, od, .func (PySem.W.fnOf x qual (defArgs st) (defBody st) (defScope st) dV kV doc pm an cdv ct), osl⟩)
    (c : PySem.W.codeIn K cdv qual = true) (k : PySem.W.keepIn K (.ref f) = true) : FunV K x qual st f (PySem.W.fnOf x qual (defArgs st) (defBody st) (defScope st) dV kV doc pm an cdv ct) := ⟨⟨oc, od, dV, kV, doc, pm, an, cdv, ct, osl, rfl, l, c⟩, k⟩
/-- every parameter is given; the defaults are the items of a tuple that is not needed -/
theorem bindsD {fd : FuncData} {ps : List Str} {T : Addr} {o : Obj} {its : Array Value} {n : Nat} (lT : K.lookup T = some o) (oT : o.data = .seq its n)
    (h : ∀ us : List Value, us.length = ps.length → ∃ k, bindArgs fd ⟨us, []⟩ = seqItems? (.ref T) >>= k ∧ k (some its) = pure (ps.zip us)) : Binds K fd ps [] := fun s us X hl => by
  rw [List.append_nil] at hl ⊢
  obtain ⟨k, e1, e2⟩ := h us hl
  refine BindsTo.of_looks fun M => ?_
  rw [e1]
  exact looks_items X lT oT (.of_pure e2)
end
/-- a method with defaults as it stands -/
structure MetAtD (K : PySem.W.Frag) (x qual : Str) (st : Stmt) (ps : List Str) (f : Addr) (fd : FuncData) : Prop where
  F : FunV K x qual st f fd
  b : Binds K fd ps []
/-- a method with keyword-only defaults as it stands -/
structure MetAtK (K : PySem.W.Frag) (x qual : Str) (st : Stmt) (kws : List (Str × V)) (f : Addr) (fd : FuncData) : Prop where
  F : L2.FunD K x qual (defArgs st) (defBody st) (defScope st) [] kws f fd
theorem funK_mk {K : PySem.W.Frag} {x qual : Str} {st : Stmt} {kws : List (Str × V)} {f D : Addr} {oc : Value} {od an : Option Addr} {osl : Array (Option Value)} {doc pm cdv ct : Value} (l : K.lookup f = some ⟨oc, od, .func (PySem.W.fnOf x qual (defArgs st) (defBody st) (defScope st) .none (.ref D) doc pm an cdv ct), osl⟩)
    (c : PySem.W.codeIn K cdv qual = true) (k : PySem.W.keepIn K (.ref f) = true) (h : ∀ q ∈ kws, ∃ u, PySem.W.nsIn K D q.1 = some (some u) ∧ RelV q.2 u) : MetAtK K x qual st kws f (PySem.W.fnOf x qual (defArgs st) (defBody st) (defScope st) .none (.ref D) doc pm an cdv ct) :=
  ⟨⟨⟨oc, od, .none, .ref D, doc, pm, an, cdv, ct, osl, rfl, l, c, .inl ⟨rfl, rfl⟩, .inr ⟨D, rfl, h⟩⟩, k⟩⟩
theorem kw_nil {K : PySem.W.Frag} {D : Addr} : ∀ q ∈ ([] : List (Str × V)), ∃ u, PySem.W.nsIn K D q.1 = some (some u) ∧ RelV q.2 u := fun _ h => nomatch h
theorem kw_cons {K : PySem.W.Frag} {D : Addr} {x : Str} {i : Int} {t : Tok} {r : List (Str × V)} (h : PySem.W.nsIn K D x = some (some (.int i t))) (hr : ∀ q ∈ r, ∃ u, PySem.W.nsIn K D q.1 = some (some u) ∧ RelV q.2 u) :
    ∀ q ∈ (x, V.int i) :: r, ∃ u, PySem.W.nsIn K D q.1 = some (some u) ∧ RelV q.2 u := fun q hq => by
  rcases List.mem_cons.mp hq with e | hq
  · subst e
    exact ⟨_, h, ⟨t, rfl⟩⟩
  · exact hr q hq

local macro_rules | `(tactic| walk_at "num") => `(tactic| first
  | omega
  | (with_reducible exact True.intro)
  | (show (0 : Int) < _; omega)
  | (refine cmul_r ?_; omega)
  | (refine cmul_l ?_; omega)
  | (refine cdiv ?_ ?_ <;> omega)
  | (refine cpow ?_ ?_ ?_ <;> decide)
  | (simp only [List.length_cons, List.length_nil, List.length_append, List.length_take, List.length_drop, List.length_map]; omega))
local macro_rules | `(tactic| walk_at "look") => `(tactic| first
  | assumption
  | exact upd_same
  | (rw [upd_ne (by assumption)]; assumption)
  | (rw [upd_ne (by first | assumption | (apply Ne.symm; assumption))]; first | assumption | exact upd_same))
local macro_rules | `(tactic| walk_at "go") => `(tactic| repeat (first
  | (refine ⟨_, rfl, ?_⟩)
  | (refine ⟨_, _, rfl, rfl, ?_⟩)
  | (refine ⟨_, _, _, _, rfl, rfl, SqL.of (by walk_at "look"), rfl, ?_⟩)
  | (refine ⟨_, _, _, _, rfl, rfl, by walk_at "look", rfl, ?_⟩)
  | (refine ⟨_, _, rfl, .inl (SqL.of (by walk_at "look")), ?_⟩)
  | (refine ⟨rfl, _, rfl, ?_⟩)
  | (refine ⟨_, _, _, _, _, rfl, by walk_at "look", by assumption, by assumption, rfl, ?_⟩)
  | (refine And.intro (Or.inl ⟨rfl, _, SqL.of (by walk_at "look")⟩) ?_)
  | (refine And.intro ⟨_, rfl⟩ ?_)
  | (refine Or.inl ⟨_, rfl, ?_⟩)
  | (refine And.intro (by walk_at "num") ?_)))
def topS (i : Nat) : Stmt := PySem.Challenge.pw_slitstairs_k05_whole_texts_of_cards.main.body.getD i (.Pass ⟨0, 0, 0, 0⟩)
/-! ### o.m(*e, k = v), m a classmethod -/
section
variable {M : Model} {A : Around} {E : Value → Shared → Prop} {s : Shared}
theorem ks_loneK {f : Value} {x y : Sem Value} {k : Str} {pos : Pos} {Q : Args → Shared → Prop}
    (h : wpAny M A x (fun v s₁ => wpAny M A y (fun u s₂ => PySem.W.StarOf M A E v (fun vs s₃ => Q ⟨vs, [(k, u)]⟩ s₃) s₂) E s₁) E s) :
    wpAny M A (evalArgs f true [(true, (do let v ← x; standAt pos; pure v))] [(some k, (do let v ← y; standAt pos; pure v))]) Q E s := by
  unfold evalArgs
  refine wpAny_bind (wpAny_bind (wpAny_mono h (fun v s₁ h₁ => wpAny_bind (wpAny_standAt (wpAny_pure ?_))) fun _ _ x => x))
  refine wpAny_holding ?_
  have ev : wpAny M A (evalAll [(do let v ← y; standAt pos; pure v)]) (fun ks s2 => ∃ u, ks = [u] ∧ PySem.W.StarOf M A E v (fun vs s₃ => Q ⟨vs, [(k, u)]⟩ s₃) s2) E s₁ := by
    unfold evalAll
    refine wpAny_bind (wpAny_bind (wpAny_mono h₁ (fun u s2 h2 => wpAny_bind (wpAny_standAt (wpAny_pure ?_))) fun _ _ x => x))
    refine wpAny_bind (wpAny_holding ?_)
    unfold evalAll
    exact wpAny_pure (wpAny_pure ⟨u, rfl, h2⟩)
  refine wpAny_bind (wpAny_mono ev (fun ks s2 ⟨u, e, h2⟩ => ?_) fun _ _ x => x)
  subst e
  unfold PySem.W.StarOf at h2
  refine wpAny_bind (wpAny_bind (wpAny_mono h2 (fun b s3 h3 => ?_) fun _ _ x => x))
  obtain ⟨rfl, h3⟩ := h3
  rw [if_neg Bool.false_ne_true]
  exact wpAny_holding (wpAny_mono h3 (fun vs s4 h4 => wpAny_pure h4) fun _ _ x => x)
theorem ks_callK {f : Value} {first : List Value} {pos : Pos} {Q : Value → Shared → Prop} {P : Heap → Prop} {args : List (Bool × Sem Value)} {kws : List (Option Str × Sem Value)} (hst : args.any (·.1) = true)
    (hk : ∀ h, P h → ∃ k, (k = Keeper.frame ∨ k = Keeper.machine ∨ k = Keeper.boundFrame) ∧ PySem.W.Looks M h (keeperOf f) k)
    (h : wpAny M A (evalArgs f true args kws) (fun a s₁ => P s₁.heap ∧ wpAny M A (call f (first ++ a.pos) a.kw) Q E s₁) E s) : wpAny M A (callWith pos f first args kws) Q E s := by
  unfold callWith
  refine wpAny_bind (wpAny_holding (wpAny_mono h (fun a s₁ h₁ => wpAny_bind (wpAny_standAt ?_)) fun _ _ x => x))
  obtain ⟨k, hk', L⟩ := hk _ h₁.1
  simp only [hst, Bool.true_or]
  refine wpAny_bind (L.here ?_)
  have tail : ∀ {t : Sem Value}, wpAny M A t Q E s₁ → wpAny M A (t >>= fun r => holding [r] point >>= fun _ => pure r) Q E s₁ :=
    fun ht => wpAny_bind (wpAny_mono ht (fun r s₂ hr => wpAny_bind (wpAny_holding (wpAny_point (wpAny_pure hr)))) fun _ _ x => x)
  have marked (mk : Value) : wpAny M A (callMarked mk f (first ++ a.pos) a.kw) Q E s₁ := by unfold callMarked; exact Calls.wpAny_keep h₁.2
  rcases hk' with rfl | rfl | rfl <;> dsimp only <;> first | exact tail (marked _) | exact tail (wpAny_operating h₁.2)
theorem starcallK_of {env : Env} {o e : Expr} {m : Str} {kws : List Keyword} {p apos pos : Pos} {Q : Value → Shared → Prop} (hbase : attributeBase o m env (eval o env) = eval o env)
    (hst : starEach [.Starred e p] env = [(true, eval e env)])
    (h : wpAny M A (eval o env) (fun ov s₁ => wpAny M A (getAttr ov m true) (fun f s₂ => wpAny M A (callWith pos f [] (backTo pos [(true, eval e env)]) (backToKw pos (keywordEach kws env))) Q E s₂) E s₁) E s) :
    wpAny M A (eval (.Call (.Attribute o m apos) [.Starred e p] kws pos) env) Q E s := by
  have hform : methodCallForm ([Expr.Starred e p].length + kws.length) (backTo pos [(true, eval e env)]) (backToKw pos (keywordEach kws env)) = false := rfl
  have hpos : methodCallPos false o env apos pos = pure pos := rfl
  have hcal : ∀ ov, calleeOf false o env ov m = (getAttr ov m true >>= fun v => pure (v, [])) := fun _ => rfl
  rw [arm_eval_Call, hbase, hst]
  refine wpAny_bind (wpAny_mono h (fun ov s₁ h₁ => ?_) fun _ _ x => x)
  refine wpAny_bind (wpAny_standAt ?_)
  unfold methodCall
  rw [hform, hpos, hcal]
  refine wpAny_bind (wpAny_holding (wpAny_bind (wpAny_mono h₁ (fun f s₂ h₂ => wpAny_pure ?_) fun _ _ x => x)))
  exact wpAny_bind (wpAny_pure h₂)
end
section
variable {P : Program} {w : World} {K : PySem.W.Frag} {mg : Str → Option Value} {base : Heap} {CX : CXT} {k : Nat} {f : Addr}
/-- what the def at f does when it is called with one keyword -/
def FnK1 (P : Program) (w : World) (K : PySem.W.Frag) (mg : Str → Option Value) (base : Heap) (CX : CXT) (k : Nat) (f : Addr) (kn : Str) (sp : V → Sp) : Prop :=
  ∀ (A : Around) (outer : List Env) (s : Shared) (H : Hp) (us : List Value) (u : Value) (vs : List V) (v : V) (Q : VK) (E : XK), Room k A → Env0 P w K mg base A outer s H → Vals vs us → RelV v u → sp v vs H Q E →
    codeAny (model P w) A (.call (.ref f) ⟨us, [(kn, u)]⟩) (CR CX outer P w H s Q E) s
end
section
variable {X : Cx} {pins : List (Addr × Obj)} {σ : L2.St} {H : Hp} {s : Shared} {CX : CXT} {k : Nat} {f : Addr} {kn : Str} {sp : V → Sp} {E : XK} {Q : VK}
theorem run_fnK1 {us : List Value} {u : Value} {vs : List V} {v : V} (F : FnK1 X.prog X.w X.K X.mg X.base CX k f kn sp) (hr : Room k X.A) (hx : Passes CX X E) (I : Inv X pins σ H s) (r : Vals vs us) (ru : RelV v u) (h : sp v vs H Q E) :
    codeAny (model X.prog X.w) X.A (.call (.ref f) ⟨us, [(kn, u)]⟩) (fun r s' => match r with | .ok (.ret v) => EP X pins σ Q v s' | .ok _ => False | .error e => X.xe e s') s := by
  refine codeAny_mono (F X.A X.stack s H us u vs v Q E hr I.env0 r ru h) fun r s' hq => ?_
  cases r with
  | error e => exact hx pins σ H s e s' I hq
  | ok fl =>
    cases fl with
    | ret u => exact I.after hq
    | next => exact False.elim hq
    | brk => exact False.elim hq
    | cont => exact False.elim hq
/-- C.m(*e, k = v), m a classmethod of C -/
def tCMethSK (K : PySem.W.Frag) (C : Addr) (sp : V → Sp) (E : XK) (ta te tv : TE) : TE := fun σ H Q => ta σ H fun x H1 => x = .ref C ∧ te σ H1 fun y H2 => tv σ H2 fun z H3 => ∃ p ys, y = .ref p ∧ (SqT K H3 p ys ∨ SqL K H3 p ys) ∧ sp z (.ref C :: ys) H3 Q E
theorem pe_cmethSK {C pp g : Addr} {mc : Value} {o e ke : Expr} {m : Str} {p apos pos kpos : Pos} {ta te tv : TE} (he : PE X o ta) (r : ClX.CRead X.K C mc) (c : ClX.CMet X.K C mc m pp g) (F : FnK1 X.prog X.w X.K X.mg X.base CX k g kn sp) (hr : Room k X.A) (hx : Passes CX X E)
    (h1 : PE X e te) (h2 : PE X ke tv) (hbase : attributeBase o m X.env (eval o X.env) = eval o X.env := by rfl)
    (hst : starEach [.Starred e p] X.env = [(true, eval e X.env)] := by rfl) : PE X (.Call (.Attribute o m apos) [.Starred e p] [⟨some kn, ke, kpos⟩] pos) (tCMethSK X.K C sp E ta te tv) := by
  refine ⟨fun pins s σ H Q I h => ?_⟩
  refine starcallK_of hbase hst (thn (he.run pins s σ H _ I h) fun u s1 ⟨x, H1, I1, rx, ex, q⟩ => ?_)
  subst ex
  obtain rfl : u = Value.ref C := rx
  refine ClX.getcmet_ok I1 r c fun s2 I2 => ?_
  refine ks_callK (P := PySem.W.MethP X.K s1.heap.objs.size g (.ref C)) rfl (PySem.W.keeps_M c.fi) ?_
  refine ks_loneK (thn (h1.run _ s2 σ H1 _ I2 q) fun v1 s3 ⟨y, H2, I3, ry, q2⟩ => thn (h2.run _ s3 σ H2 _ I3 q2) fun v2 s4 ⟨z, H3, I4, rz, a, ys, ey, ht, hsp⟩ => ?_)
  subst ey
  obtain rfl : v1 = Value.ref a := ry
  refine StX.star_any I4 ht fun us s5 I5 rv => ⟨⟨ClX.pin_at I5, I5.kIn⟩, ?_⟩
  have zz : wpAny (model X.prog X.w) X.A (call (.ref s1.heap.objs.size) us [(kn, v2)]) (EP X ((s1.heap.objs.size, PySem.W.methodObj (.ref g) (.ref C)) :: pins) σ Q) X.xe s5 :=
    wpAny_call (PySem.W.method_call (ClX.pin_at I5) (run_fnK1 (us := .ref C :: us) (vs := .ref C :: ys) F hr hx I5 (.cons rfl rv) rz hsp))
  exact thn zz fun _ _ y => ClX.unpinE y
end
/-- a classmethod def m(cls, *ws, k=()) as it stands -/
structure CmAt (K : PySem.W.Frag) (x qual : Str) (st : Stmt) (kn : Str) (f te : Addr) : Prop where
  ex : ∃ (oc : Value) (od : Option Addr) (D : Addr) (doc pm : Value) (an : Option Addr) (cdv ct : Value) (osl : Array (Option Value)),
    K.lookup f = some ⟨oc, od, .func (PySem.W.fnOf x qual (defArgs st) (defBody st) (defScope st) .none (.ref D) doc pm an cdv ct), osl⟩ ∧ PySem.W.codeIn K cdv qual = true ∧ PySem.W.nsIn K D kn = some (some (.ref te))
  emp : ∃ (o : Obj) (n : Nat), K.lookup te = some o ∧ o.cls = .type "tuple" ∧ o.data = .seq #[] n
theorem CmAt.sq {K : PySem.W.Frag} {x qual : Str} {st : Stmt} {kn : Str} {f te : Addr} (F : CmAt K x qual st kn f te) (H : Hp) : SqT K H te [] := let ⟨o, n, a, b, c⟩ := F.emp; .inr ⟨o, #[], n, a, b, c, Nat.zero_le _, .nil⟩
section
variable {P : Program} {w : World} {K : PySem.W.Frag} {mg : Str → Option Value} {base : Heap} {CX : CXT} {k : Nat} {f te : Addr} {x qual : Str} {st : Stmt} {a kn pv : Str} {N : List Str} {sp : Sp}
theorem CmAt.fnK (F : CmAt K x qual st kn f te) (S : FnScope N [a, kn, pv] (defScope st)) (hCX : StX.CXUp CX)
    (hb : ∀ (D : Addr) (doc pm : Value) (an : Option Addr) (cdv ct c m : Value) (rest : List Value), bindArgs (PySem.W.fnOf x qual (defArgs st) (defBody st) (defScope st) .none (.ref D) doc pm an cdv ct) ⟨c :: rest, [(kn, m)]⟩ = (newTuple rest >>= fun t => pure [(a, c), (kn, m), (pv, t)]))
    (hbody : ∀ (cdv : Value) (A : Around) (outer : List Env) (s : Shared) (H : Hp) (vs : List V) (Q : VK) (E : XK), Room k (A.deeper (envOfC qual (defScope st) s.heap.objs.size f cdv)) → sp vs H Q E →
      ∃ t, PSs (cxOf CX P w K mg base N qual (defScope st) f cdv A outer s H E) (defBody st) t ∧ t { nx := fun _ H' => Q .non H', rt := Q } (start N vs) H) :
    FnK1 P w K mg base CX (k + 1) f kn (fun v vs H Q E => ∃ c rest, vs = c :: rest ∧ rest.length ≤ sizeLine ∧ ∀ p, H p = Option.none → sp [c, v, V.ref p] (upd H p (.tup rest)) Q E) := by
  obtain ⟨oc, od, D, doc, pm, an, cdv, ct, osl, lk, hcd, hk⟩ := F.ex
  intro A outer s H us u vs v Q E hr e0 r ru hsp
  obtain ⟨c, rest, ev, hz, hq⟩ := hsp
  subst ev
  cases r with
  | @cons _ uc _ u2 rc r2 =>
  have hn : H s.heap.objs.size = Option.none := e0.hok.fresh (Nat.le_refl _)
  have hl2 : u2.length ≤ sizeLine := by rw [← r2.length]; exact hz
  refine StX.run_bnd lk hcd S hr e0 (G := fun xs H2 => ∃ p, H p = Option.none ∧ xs = [c, v, V.ref p] ∧ H2 = upd H p (.tup rest)) (fun A' Ex Q' h => ?_) fun s2 H2 xs ⟨p, hp, ex, eH⟩ hr' => ?_
  · rw [hb]
    refine wpAny_bind (wpAny_newTuple (wpAny_pure ?_) hl2)
    have new : ObjOk P w (upd H s.heap.objs.size (.tup rest)) (s.heap.push ({ cls := .type "tuple", data := .seq u2.toArray } : Obj)) s.heap.objs.size (.tup rest) := ⟨hz, u2, r2, ⟨_, Heap.get?_push_size _ rfl, rfl, _, rfl⟩⟩
    have un := StX.un_laid (fs := frs outer) (s := s) (o := ({ cls := .type "tuple", data := .seq u2.toArray } : Obj)) (u := .tup rest) hn
    exact h _ _ [c, v, V.ref s.heap.objs.size] [uc, u, Value.ref s.heap.objs.size] (StX.env0_laid e0 new) un rfl (fun e s' => hCX outer s H _ _ E e s' un (fun b o q => Heap.get?_push_of_some _ q) rfl) (.cons rc (.cons ru (.cons rfl .nil)))
      rfl ⟨_, hn, rfl, rfl⟩
  · subst ex eH
    exact hbody cdv A outer s2 _ _ Q E hr' (hq p hp)
theorem CmAt.fnR (F : CmAt K x qual st kn f te) (S : FnScope N [a, kn, pv] (defScope st)) (hCX : StX.CXUp CX)
    (hb : ∀ (D : Addr) (doc pm : Value) (an : Option Addr) (cdv ct c m : Value) (rest : List Value), ∃ (β γ : Type) (k1 : Option Value → Sem β) (k2 : β → Sem γ) (k3 : γ → Sem (List (Str × Value))) (b : β),
      bindArgs (PySem.W.fnOf x qual (defArgs st) (defBody st) (defScope st) .none (.ref D) doc pm an cdv ct) ⟨c :: rest, []⟩ = ((nsGet D kn >>= k1) >>= k2) >>= k3 ∧ k1 (some m) = pure b ∧ (k2 b >>= k3) = (newTuple rest >>= fun t => pure [(a, c), (kn, m), (pv, t)]))
    (hbody : ∀ (cdv : Value) (A : Around) (outer : List Env) (s : Shared) (H : Hp) (vs : List V) (Q : VK) (E : XK), Room k (A.deeper (envOfC qual (defScope st) s.heap.objs.size f cdv)) → sp vs H Q E →
      ∃ t, PSs (cxOf CX P w K mg base N qual (defScope st) f cdv A outer s H E) (defBody st) t ∧ t { nx := fun _ H' => Q .non H', rt := Q } (start N vs) H) :
    FnR P w K mg base CX (k + 1) f (fun vs H Q E => ∃ c rest, vs = c :: rest ∧ rest.length ≤ sizeLine ∧ ∀ p, H p = Option.none → sp [c, V.ref te, V.ref p] (upd H p (.tup rest)) Q E) := by
  obtain ⟨oc, od, D, doc, pm, an, cdv, ct, osl, lk, hcd, hk⟩ := F.ex
  intro A outer s H us vs Q E hr e0 r hsp
  obtain ⟨c, rest, ev, hz, hq⟩ := hsp
  subst ev
  cases r with
  | @cons _ uc _ u2 rc r2 =>
  have hn : H s.heap.objs.size = Option.none := e0.hok.fresh (Nat.le_refl _)
  have hl2 : u2.length ≤ sizeLine := by rw [← r2.length]; exact hz
  have KX : K.In s.heap := e0.mod.kin.keeps fun b o e => (e0.bs b o e).1
  refine StX.run_bnd lk hcd S hr e0 (G := fun xs H2 => ∃ p, H p = Option.none ∧ xs = [c, V.ref te, V.ref p] ∧ H2 = upd H p (.tup rest)) (fun A' Ex Q' h => ?_) fun s2 H2 xs ⟨p, hp, ex, eH⟩ hr' => ?_
  · obtain ⟨β, γ, k1, k2, k3, b, e1, e2, e3⟩ := hb D doc pm an cdv ct uc (.ref te) u2
    have l1 : PySem.W.Looks (model P w) s.heap (nsGet D kn >>= k1) b := (PySem.W.looks_nsIn KX hk).andThen (PySem.W.Looks.of_pure e2)
    rw [e1, bind_assoc]
    refine wpAny_bind (l1.here ?_)
    rw [e3]
    refine wpAny_bind (wpAny_newTuple (wpAny_pure ?_) hl2)
    have new : ObjOk P w (upd H s.heap.objs.size (.tup rest)) (s.heap.push ({ cls := .type "tuple", data := .seq u2.toArray } : Obj)) s.heap.objs.size (.tup rest) := ⟨hz, u2, r2, ⟨_, Heap.get?_push_size _ rfl, rfl, _, rfl⟩⟩
    have un := StX.un_laid (fs := frs outer) (s := s) (o := ({ cls := .type "tuple", data := .seq u2.toArray } : Obj)) (u := .tup rest) hn
    exact h _ _ [c, V.ref te, V.ref s.heap.objs.size] [uc, .ref te, Value.ref s.heap.objs.size] (StX.env0_laid e0 new) un rfl (fun e s' => hCX outer s H _ _ E e s' un (fun b o q => Heap.get?_push_of_some _ q) rfl) (.cons rc (.cons rfl (.cons rfl .nil)))
      rfl ⟨_, hn, rfl, rfl⟩
  · subst ex eH
    exact hbody cdv A outer s2 _ _ Q E hr' (hq p hp)
end
/-! ### cls(e, ..) in a classmethod: the i-th slot holds the class -/
def tMakeL (i : Nat) (C : Addr) (sp : Sp) (dvs : List V) (E : XK) (t : TA) : TE := fun σ H Q => σ[i]? = some (some (.ref C)) ∧ tMake C sp dvs E t σ H Q
section
variable {X : Cx} {CX : CXT} {k i : Nat} {f C : Addr} {fd : FuncData} {ps : List Str} {sp : Sp} {dvs : List V} {ds : List Value} {E : XK} {x : Str} {p pos : Pos} {e : Expr} {es : List Expr} {t : TA}
theorem pe_makeL (M : Mk X.K C f) (F : FnOk X.prog X.w X.K X.mg X.base CX k f fd ps sp) (hr : Room (k + 1) X.A) (hN : X.N[i]? = some x) (hv : Vis X.env.scope x) (hb : Binds X.K fd ps ds) (hd : Vals dvs ds) (hx : Passes CX X E) (ha : PA X (e :: es) t)
    (hdb : (x == ("__debug__" : Str)) = false := by decide) (hcd : (x == ("__classdict__" : Str)) = false := by decide)
    (he : starEach (e :: es) X.env = (false, eval e X.env) :: starEach es X.env := by rfl) (hpl : (backTo pos (starEach es X.env)).any (·.1) = false := by rfl) : PE X (.Call (.Name x p) (e :: es) [] pos) (tMakeL i C sp dvs E t) := by
  refine ⟨fun pins s σ H Q I h => ?_⟩
  obtain ⟨hs, ht⟩ := h
  refine wpAny_Call_Name_kw (thn ((pe_var (pos := p) hN hv hdb hcd).run pins s σ H (fun v H1 => v = .ref C ∧ H1 = H) I ⟨.ref C, hs, rfl, rfl⟩) fun u s1 ⟨v, H1, I1, r1, q1⟩ => ?_)
  obtain ⟨rfl, rfl⟩ := q1
  cases r1
  refine PySem.W.callWith_K (h₀ := X.base) I.ok.mod.kin M.kp (thn (ha.run pos pins s1 σ _ _ I1 ht) fun us s2 ⟨vs, H2, I2, r, q⟩ => ⟨I2.kIn, ?_⟩) he hpl
  exact run_make M F hr hb hd hx I2 r q
end
theorem cmet_of {K : PySem.W.Frag} {C p g : Addr} {m : Str} {r : List Value} (h0 : PySem.W.findIn K (.type "type") m = some none) (h1 : PySem.W.findIn K (.ref C) m = some (some (.ref p))) (h2 : PySem.W.typeIn K (.ref p) = some (.type "classmethod"))
    (h3 : PySem.W.specialIn K (.ref p) "__get__" = some (some (.builtin "classmethod.__get__"))) (h4 : PySem.W.recIn K p "classmethod" = some (.ref g :: r)) (h5 : PySem.W.fnIn K g = true) : ClX.CMet K C (.type "type") m p g := by
  refine ⟨?_, ⟨r, h4⟩, h5⟩
  unfold PySem.W.findCls
  rw [h0]
  simp only [Option.bind_some]
  rw [h1]
  simp only [Option.bind_some]
  rw [if_neg (by intro h; cases h), h2]
  simp only [Option.bind_some]
  rw [if_neg (by decide +kernel), h3]
  rfl
def tMakeLS (i : Nat) (C : Addr) (sp : Sp) (E : L2.St → XK) (t : TA) : TE := fun σ H Q => σ[i]? = some (some (.ref C)) ∧ tMakeS C sp E t σ H Q
section
variable {X : Cx} {CX : CXT} {n : Nat} {f C : Addr} {fd : FuncData} {ps : List Str} {sp : Sp} {E : L2.St → XK} {x : Str} {p pos : Pos} {e : Expr} {es : List Expr} {t : TA}
theorem pe_makeLS (i : Nat) (M : Mk X.K C f) (F : FnOk X.prog X.w X.K X.mg X.base CX n f fd ps sp) (room : Room (n + 1) X.A) (hb : L2.Binds X.K fd ps []) (esc : ∀ σ, PassesAt CX X σ (E σ)) (ha : PA X (e :: es) t) (hN : X.N[i]? = some x := by rfl)
    (hv : Vis X.env.scope x := by first | exact Or.inl rfl | exact Or.inr (Or.inl rfl) | exact Or.inr (Or.inr rfl)) (hdb : (x == ("__debug__" : Str)) = false := by decide) (hcd : (x == ("__classdict__" : Str)) = false := by decide)
    (he : starEach (e :: es) X.env = (false, eval e X.env) :: starEach es X.env := by rfl) (hpl : (backTo pos (starEach es X.env)).any (·.1) = false := by rfl) : PE X (.Call (.Name x p) (e :: es) [] pos) (tMakeLS i C sp E t) := by
  refine ⟨fun pins s σ H Q I h => ?_⟩
  obtain ⟨hs, ht⟩ := h
  refine wpAny_Call_Name_kw (thn ((pe_var (pos := p) hN hv hdb hcd).run pins s σ H (fun v H1 => v = .ref C ∧ H1 = H) I ⟨.ref C, hs, rfl, rfl⟩) fun u s1 ⟨v, H1, I1, r1, q1⟩ => ?_)
  obtain ⟨rfl, rfl⟩ := q1
  cases r1
  exact PySem.W.callWith_K (h₀ := X.base) I.ok.mod.kin M.kp (thn (ha.run pos pins s1 σ _ _ I1 ht) fun us s2 ⟨vs, H2, I2, r, q⟩ => ⟨I2.kIn, makeS_run M F room hb (esc σ) I2 r q⟩) he hpl
end

abbrev s_is_number : Stmt := topS 10
abbrev N_is_number : List Str := ["thing"]
abbrev P_is_number : List Str := ["thing"]
theorem sc_is_number : FnScope N_is_number P_is_number (defScope s_is_number) := ⟨rfl, rfl, rfl, by decide +kernel, rfl, by decide +kernel, by decide +kernel⟩
abbrev s_is_whole : Stmt := topS 11
abbrev N_is_whole : List Str := ["thing", "low", "high"]
abbrev P_is_whole : List Str := ["thing", "low", "high"]
theorem sc_is_whole : FnScope N_is_whole P_is_whole (defScope s_is_whole) := ⟨rfl, rfl, rfl, by decide +kernel, rfl, by decide +kernel, by decide +kernel⟩
abbrev s_is_sequence : Stmt := topS 12
abbrev N_is_sequence : List Str := ["thing"]
abbrev P_is_sequence : List Str := ["thing"]
theorem sc_is_sequence : FnScope N_is_sequence P_is_sequence (defScope s_is_sequence) := ⟨rfl, rfl, rfl, by decide +kernel, rfl, by decide +kernel, by decide +kernel⟩
abbrev s_word_fault : Stmt := topS 13
abbrev N_word_fault : List Str := ["thing", "boundary", "ahead", "letter"]
abbrev P_word_fault : List Str := ["thing"]
theorem sc_word_fault : FnScope N_word_fault P_word_fault (defScope s_word_fault) := ⟨rfl, rfl, rfl, by decide +kernel, rfl, by decide +kernel, by decide +kernel⟩
abbrev s_common_steps : Stmt := topS 14
abbrev N_common_steps : List Str := ["one", "other", "heights", "others", "step", "letter"]
abbrev P_common_steps : List Str := ["one", "other"]
theorem sc_common_steps : FnScope N_common_steps P_common_steps (defScope s_common_steps) := ⟨rfl, rfl, rfl, by decide +kernel, rfl, by decide +kernel, by decide +kernel⟩
abbrev s_check_columns : Stmt := topS 18
abbrev N_check_columns : List Str := ["columns", "index", "column"]
abbrev P_check_columns : List Str := ["columns"]
theorem sc_check_columns : FnScope N_check_columns P_check_columns (defScope s_check_columns) := ⟨rfl, rfl, rfl, by decide +kernel, rfl, by decide +kernel, by decide +kernel⟩
abbrev s_mark_of : Stmt := topS 19
abbrev N_mark_of : List Str := ["thing", "size", "width", "c", "t"]
abbrev P_mark_of : List Str := ["thing", "size", "width"]
theorem sc_mark_of : FnScope N_mark_of P_mark_of (defScope s_mark_of) := ⟨rfl, rfl, rfl, by decide +kernel, rfl, by decide +kernel, by decide +kernel⟩
abbrev s_new_marks : Stmt := topS 20
abbrev N_new_marks : List Str := ["marks", "size", "width", "taken", "found", "index", "thing", "mark"]
abbrev P_new_marks : List Str := ["marks", "size", "width", "taken"]
theorem sc_new_marks : FnScope N_new_marks P_new_marks (defScope s_new_marks) := ⟨rfl, rfl, rfl, by decide +kernel, rfl, by decide +kernel, by decide +kernel⟩
abbrev s_card_text : Stmt := topS 25
abbrev N_card_text : List Str := ["card", "slits", "c", "t"]
abbrev P_card_text : List Str := ["card"]
theorem sc_card_text : FnScope N_card_text P_card_text (defScope s_card_text) := ⟨rfl, rfl, rfl, by decide +kernel, rfl, by decide +kernel, by decide +kernel⟩
abbrev s_is_number_text : Stmt := topS 26
abbrev N_is_number_text : List Str := ["text", "digit"]
abbrev P_is_number_text : List Str := ["text"]
theorem sc_is_number_text : FnScope N_is_number_text P_is_number_text (defScope s_is_number_text) := ⟨rfl, rfl, rfl, by decide +kernel, rfl, by decide +kernel, by decide +kernel⟩
abbrev s_slit_of : Stmt := topS 27
abbrev N_slit_of : List Str := ["row", "parts"]
abbrev P_slit_of : List Str := ["row"]
theorem sc_slit_of : FnScope N_slit_of P_slit_of (defScope s_slit_of) := ⟨rfl, rfl, rfl, by decide +kernel, rfl, by decide +kernel, by decide +kernel⟩
abbrev s_is_word_row : Stmt := topS 28
abbrev N_is_word_row : List Str := ["row", "letter"]
abbrev P_is_word_row : List Str := ["row"]
theorem sc_is_word_row : FnScope N_is_word_row P_is_word_row (defScope s_is_word_row) := ⟨rfl, rfl, rfl, by decide +kernel, rfl, by decide +kernel, by decide +kernel⟩
abbrev s_word_row_fault : Stmt := topS 29
abbrev N_word_row_fault : List Str := ["row", "words", "slits", "fault"]
abbrev P_word_row_fault : List Str := ["row", "words", "slits"]
theorem sc_word_row_fault : FnScope N_word_row_fault P_word_row_fault (defScope s_word_row_fault) := ⟨rfl, rfl, rfl, by decide +kernel, rfl, by decide +kernel, by decide +kernel⟩
abbrev s_slit_row_fault : Stmt := topS 30
abbrev N_slit_row_fault : List Str := ["slit", "words", "slits"]
abbrev P_slit_row_fault : List Str := ["slit", "words", "slits"]
theorem sc_slit_row_fault : FnScope N_slit_row_fault P_slit_row_fault (defScope s_slit_row_fault) := ⟨rfl, rfl, rfl, by decide +kernel, rfl, by decide +kernel, by decide +kernel⟩
abbrev s_parse_card : Stmt := topS 31
abbrev N_parse_card : List Str := ["text", "words", "slits", "number", "row", "slit", "fault"]
abbrev P_parse_card : List Str := ["text"]
theorem sc_parse_card : FnScope N_parse_card P_parse_card (defScope s_parse_card) := ⟨rfl, rfl, rfl, by decide +kernel, rfl, by decide +kernel, by decide +kernel⟩
abbrev s_l_mix : Stmt := topS 33
abbrev N_l_mix : List Str := ["_law_number", "_law_turn", "_law_once", "_law_twice"]
abbrev P_l_mix : List Str := ["_law_number", "_law_turn"]
theorem sc_l_mix : FnScope N_l_mix P_l_mix (defScope s_l_mix) := ⟨rfl, rfl, rfl, by decide +kernel, rfl, by decide +kernel, by decide +kernel⟩
abbrev s_l_hand : Stmt := topS 34
abbrev N_l_hand : List Str := ["_law_script", "_law_total", "_law_k", "_law_cell"]
abbrev P_l_hand : List Str := ["_law_script"]
theorem sc_l_hand : FnScope N_l_hand P_l_hand (defScope s_l_hand) := ⟨rfl, rfl, rfl, by decide +kernel, rfl, by decide +kernel, by decide +kernel⟩
abbrev s_l_draw : Stmt := topS 35
abbrev N_l_draw : List Str := ["_law_hand_here", "_law_many", "_law_cell", "_law_rest"]
abbrev P_l_draw : List Str := ["_law_hand_here", "_law_many"]
theorem sc_l_draw : FnScope N_l_draw P_l_draw (defScope s_l_draw) := ⟨rfl, rfl, rfl, by decide +kernel, rfl, by decide +kernel, by decide +kernel⟩
abbrev s_l_word : Stmt := topS 36
abbrev N_l_word : List Str := ["_law_hand_here", "_law_size", "_law_word_here", "_law_height", "_law_t", "_law_may_out", "_law_may_down"]
abbrev P_l_word : List Str := ["_law_hand_here", "_law_size"]
theorem sc_l_word : FnScope N_l_word P_l_word (defScope s_l_word) := ⟨rfl, rfl, rfl, by decide +kernel, rfl, by decide +kernel, by decide +kernel⟩
abbrev s_l_near : Stmt := topS 37
abbrev N_l_near : List Str := ["_law_hand_here", "_law_word_here", "_law_t", "_law_turned", "_law_height", "_law_letter"]
abbrev P_l_near : List Str := ["_law_hand_here", "_law_word_here"]
theorem sc_l_near : FnScope N_l_near P_l_near (defScope s_l_near) := ⟨rfl, rfl, rfl, by decide +kernel, rfl, by decide +kernel, by decide +kernel⟩
abbrev s_l_words : Stmt := topS 38
abbrev N_l_words : List Str := ["_law_hand_here", "_law_size", "_law_width", "_law_words_here", "_law_k", "_law_way"]
abbrev P_l_words : List Str := ["_law_hand_here", "_law_size", "_law_width"]
theorem sc_l_words : FnScope N_l_words P_l_words (defScope s_l_words) := ⟨rfl, rfl, rfl, by decide +kernel, rfl, by decide +kernel, by decide +kernel⟩
abbrev s_l_marks : Stmt := topS 39
abbrev N_l_marks : List Str := ["_law_hand_here", "_law_size", "_law_width", "_law_most", "_law_marks_here", "_law_k", "_law_mark"]
abbrev P_l_marks : List Str := ["_law_hand_here", "_law_size", "_law_width", "_law_most"]
theorem sc_l_marks : FnScope N_l_marks P_l_marks (defScope s_l_marks) := ⟨rfl, rfl, rfl, by decide +kernel, rfl, by decide +kernel, by decide +kernel⟩
abbrev s_l_text : Stmt := topS 40
abbrev N_l_text : List Str := ["_law_words_here", "_law_marks_here", "_law_rows", "_law_c", "_law_t"]
abbrev P_l_text : List Str := ["_law_words_here", "_law_marks_here"]
theorem sc_l_text : FnScope N_l_text P_l_text (defScope s_l_text) := ⟨rfl, rfl, rfl, by decide +kernel, rfl, by decide +kernel, by decide +kernel⟩
abbrev s_law : Stmt := topS 41
abbrev N_law : List Str := ["_law_script", "_law_hand_here", "_law_drawn", "_law_k", "_law_size", "_law_width", "_law_words_here", "_law_texts", "_law_marks_here", "_law_handed", "_law_card", "_law_text_here", "_law_word_here", "_law_column"]
abbrev P_law : List Str := ["_law_script"]
theorem sc_law : FnScope N_law P_law (defScope s_law) := ⟨rfl, rfl, rfl, by decide +kernel, rfl, by decide +kernel, by decide +kernel⟩
abbrev s_NoColumn___init__ : Stmt := inClass (topS 3) 0
abbrev N_NoColumn___init__ : List Str := ["self", "column"]
abbrev P_NoColumn___init__ : List Str := ["self", "column"]
theorem sc_NoColumn___init__ : FnScope N_NoColumn___init__ P_NoColumn___init__ (defScope s_NoColumn___init__) := ⟨rfl, rfl, rfl, by decide +kernel, rfl, by decide +kernel, by decide +kernel⟩
abbrev s_BadColumn___init__ : Stmt := inClass (topS 4) 0
abbrev N_BadColumn___init__ : List Str := ["self", "what"]
abbrev P_BadColumn___init__ : List Str := ["self", "what"]
theorem sc_BadColumn___init__ : FnScope N_BadColumn___init__ P_BadColumn___init__ (defScope s_BadColumn___init__) := ⟨rfl, rfl, rfl, by decide +kernel, rfl, by decide +kernel, by decide +kernel⟩
abbrev s_BadBoundary___init__ : Stmt := inClass (topS 5) 0
abbrev N_BadBoundary___init__ : List Str := ["self", "boundary"]
abbrev P_BadBoundary___init__ : List Str := ["self", "boundary"]
theorem sc_BadBoundary___init__ : FnScope N_BadBoundary___init__ P_BadBoundary___init__ (defScope s_BadBoundary___init__) := ⟨rfl, rfl, rfl, by decide +kernel, rfl, by decide +kernel, by decide +kernel⟩
abbrev s_BadText___init__ : Stmt := inClass (topS 6) 0
abbrev N_BadText___init__ : List Str := ["self", "row", "what"]
abbrev P_BadText___init__ : List Str := ["self", "row", "what"]
theorem sc_BadText___init__ : FnScope N_BadText___init__ P_BadText___init__ (defScope s_BadText___init__) := ⟨rfl, rfl, rfl, by decide +kernel, rfl, by decide +kernel, by decide +kernel⟩
abbrev s_BadCard___init__ : Stmt := inClass (topS 7) 0
abbrev N_BadCard___init__ : List Str := ["self", "index", "what"]
abbrev P_BadCard___init__ : List Str := ["self", "index", "what"]
theorem sc_BadCard___init__ : FnScope N_BadCard___init__ P_BadCard___init__ (defScope s_BadCard___init__) := ⟨rfl, rfl, rfl, by decide +kernel, rfl, by decide +kernel, by decide +kernel⟩
abbrev s_Column___init__ : Stmt := inClass (topS 15) 0
abbrev N_Column___init__ : List Str := ["self", "word", "fault"]
abbrev P_Column___init__ : List Str := ["self", "word"]
theorem sc_Column___init__ : FnScope N_Column___init__ P_Column___init__ (defScope s_Column___init__) := ⟨rfl, rfl, rfl, by decide +kernel, rfl, by decide +kernel, by decide +kernel⟩
abbrev s_Column_many : Stmt := inClass (topS 15) 2
abbrev N_Column_many : List Str := ["self", "letter", "boundary"]
abbrev P_Column_many : List Str := ["self", "letter", "boundary"]
theorem sc_Column_many : FnScope N_Column_many P_Column_many (defScope s_Column_many) := ⟨rfl, rfl, rfl, by decide +kernel, rfl, by decide +kernel, by decide +kernel⟩
abbrev s_Column_heights : Stmt := inClass (topS 15) 6
abbrev N_Column_heights : List Str := ["self", "found", "letter"]
abbrev P_Column_heights : List Str := ["self"]
theorem sc_Column_heights : FnScope N_Column_heights P_Column_heights (defScope s_Column_heights) := ⟨rfl, rfl, rfl, by decide +kernel, rfl, by decide +kernel, by decide +kernel⟩
abbrev s_Column___eq__ : Stmt := inClass (topS 15) 12
abbrev N_Column___eq__ : List Str := ["self", "other"]
abbrev P_Column___eq__ : List Str := ["self", "other"]
theorem sc_Column___eq__ : FnScope N_Column___eq__ P_Column___eq__ (defScope s_Column___eq__) := ⟨rfl, rfl, rfl, by decide +kernel, rfl, by decide +kernel, by decide +kernel⟩
abbrev s_Column___str__ : Stmt := inClass (topS 15) 13
abbrev N_Column___str__ : List Str := ["self"]
abbrev P_Column___str__ : List Str := ["self"]
theorem sc_Column___str__ : FnScope N_Column___str__ P_Column___str__ (defScope s_Column___str__) := ⟨rfl, rfl, rfl, by decide +kernel, rfl, by decide +kernel, by decide +kernel⟩
abbrev s_Column___len__ : Stmt := inClass (topS 15) 14
abbrev N_Column___len__ : List Str := ["self"]
abbrev P_Column___len__ : List Str := ["self"]
theorem sc_Column___len__ : FnScope N_Column___len__ P_Column___len__ (defScope s_Column___len__) := ⟨rfl, rfl, rfl, by decide +kernel, rfl, by decide +kernel, by decide +kernel⟩
abbrev s_Column___iter__ : Stmt := inClass (topS 15) 15
abbrev N_Column___iter__ : List Str := ["self"]
abbrev P_Column___iter__ : List Str := ["self"]
theorem sc_Column___iter__ : FnScope N_Column___iter__ P_Column___iter__ (defScope s_Column___iter__) := ⟨rfl, rfl, rfl, by decide +kernel, rfl, by decide +kernel, by decide +kernel⟩
abbrev s_Card___init__ : Stmt := inClass (topS 21) 0
abbrev N_Card___init__ : List Str := ["self", "columns", "marks", "column"]
abbrev P_Card___init__ : List Str := ["self", "columns", "marks"]
theorem sc_Card___init__ : FnScope N_Card___init__ P_Card___init__ (defScope s_Card___init__) := ⟨rfl, rfl, rfl, by decide +kernel, rfl, by decide +kernel, by decide +kernel⟩
abbrev s_Card_of_words : Stmt := inClass (topS 21) 1
abbrev N_Card_of_words : List Str := ["cls", "marks", "words", "columns", "word"]
abbrev P_Card_of_words : List Str := ["cls", "marks", "words"]
theorem sc_Card_of_words : FnScope N_Card_of_words P_Card_of_words (defScope s_Card_of_words) := ⟨rfl, rfl, rfl, by decide +kernel, rfl, by decide +kernel, by decide +kernel⟩
abbrev s_Card_common : Stmt := inClass (topS 21) 2
abbrev N_Card_common : List Str := ["self", "c"]
abbrev P_Card_common : List Str := ["self", "c"]
theorem sc_Card_common : FnScope N_Card_common P_Card_common (defScope s_Card_common) := ⟨rfl, rfl, rfl, by decide +kernel, rfl, by decide +kernel, by decide +kernel⟩
abbrev s_Card___eq__ : Stmt := inClass (topS 21) 15
abbrev N_Card___eq__ : List Str := ["self", "other"]
abbrev P_Card___eq__ : List Str := ["self", "other"]
theorem sc_Card___eq__ : FnScope N_Card___eq__ P_Card___eq__ (defScope s_Card___eq__) := ⟨rfl, rfl, rfl, by decide +kernel, rfl, by decide +kernel, by decide +kernel⟩
abbrev s_Card___len__ : Stmt := inClass (topS 21) 16
abbrev N_Card___len__ : List Str := ["self"]
abbrev P_Card___len__ : List Str := ["self"]
theorem sc_Card___len__ : FnScope N_Card___len__ P_Card___len__ (defScope s_Card___len__) := ⟨rfl, rfl, rfl, by decide +kernel, rfl, by decide +kernel, by decide +kernel⟩
abbrev s_Card___iter__ : Stmt := inClass (topS 21) 17
abbrev N_Card___iter__ : List Str := ["self"]
abbrev P_Card___iter__ : List Str := ["self"]
theorem sc_Card___iter__ : FnScope N_Card___iter__ P_Card___iter__ (defScope s_Card___iter__) := ⟨rfl, rfl, rfl, by decide +kernel, rfl, by decide +kernel, by decide +kernel⟩
structure Ads where
  f_is_number : Addr
  d_is_number : FuncData
  f_is_whole : Addr
  d_is_whole : FuncData
  f_is_sequence : Addr
  d_is_sequence : FuncData
  f_word_fault : Addr
  d_word_fault : FuncData
  f_common_steps : Addr
  d_common_steps : FuncData
  f_check_columns : Addr
  d_check_columns : FuncData
  f_mark_of : Addr
  d_mark_of : FuncData
  f_new_marks : Addr
  d_new_marks : FuncData
  f_card_text : Addr
  d_card_text : FuncData
  f_is_number_text : Addr
  d_is_number_text : FuncData
  f_slit_of : Addr
  d_slit_of : FuncData
  f_is_word_row : Addr
  d_is_word_row : FuncData
  f_word_row_fault : Addr
  d_word_row_fault : FuncData
  f_slit_row_fault : Addr
  d_slit_row_fault : FuncData
  f_parse_card : Addr
  d_parse_card : FuncData
  f_l_mix : Addr
  d_l_mix : FuncData
  f_l_hand : Addr
  d_l_hand : FuncData
  f_l_draw : Addr
  d_l_draw : FuncData
  f_l_word : Addr
  d_l_word : FuncData
  f_l_near : Addr
  d_l_near : FuncData
  f_l_words : Addr
  d_l_words : FuncData
  f_l_marks : Addr
  d_l_marks : FuncData
  f_l_text : Addr
  d_l_text : FuncData
  f_law : Addr
  d_law : FuncData
  f_NoColumn___init__ : Addr
  d_NoColumn___init__ : FuncData
  f_BadColumn___init__ : Addr
  d_BadColumn___init__ : FuncData
  f_BadBoundary___init__ : Addr
  d_BadBoundary___init__ : FuncData
  f_BadText___init__ : Addr
  d_BadText___init__ : FuncData
  f_BadCard___init__ : Addr
  d_BadCard___init__ : FuncData
  f_Column___init__ : Addr
  d_Column___init__ : FuncData
  f_Column_many : Addr
  d_Column_many : FuncData
  f_Column_heights : Addr
  d_Column_heights : FuncData
  f_Column___eq__ : Addr
  d_Column___eq__ : FuncData
  f_Column___str__ : Addr
  d_Column___str__ : FuncData
  f_Column___len__ : Addr
  d_Column___len__ : FuncData
  f_Column___iter__ : Addr
  d_Column___iter__ : FuncData
  f_Card___init__ : Addr
  d_Card___init__ : FuncData
  f_Card_of_words : Addr
  d_Card_of_words : FuncData
  f_Card_common : Addr
  d_Card_common : FuncData
  f_Card___eq__ : Addr
  d_Card___eq__ : FuncData
  f_Card___len__ : Addr
  d_Card___len__ : FuncData
  f_Card___iter__ : Addr
  d_Card___iter__ : FuncData
  C_CardError : Addr
  C_NoColumn : Addr
  C_BadColumn : Addr
  C_BadBoundary : Addr
  C_BadText : Addr
  C_BadCard : Addr
  C_Column : Addr
  C_Card : Addr
  p_Column_heights : Addr
  p_Card_of_words : Addr
  te_Card_of_words : Addr
structure Top (K : PySem.W.Frag) (mg : Str → Option Value) (A : Ads) : Prop where
  D_is_number : DefAt K mg "is_number" s_is_number P_is_number A.f_is_number A.d_is_number
  D_is_whole : DefAt K mg "is_whole" s_is_whole P_is_whole A.f_is_whole A.d_is_whole
  D_is_sequence : DefAt K mg "is_sequence" s_is_sequence P_is_sequence A.f_is_sequence A.d_is_sequence
  D_word_fault : DefAt K mg "word_fault" s_word_fault P_word_fault A.f_word_fault A.d_word_fault
  D_common_steps : DefAt K mg "common_steps" s_common_steps P_common_steps A.f_common_steps A.d_common_steps
  D_check_columns : DefAt K mg "check_columns" s_check_columns P_check_columns A.f_check_columns A.d_check_columns
  D_mark_of : DefAt K mg "mark_of" s_mark_of P_mark_of A.f_mark_of A.d_mark_of
  D_new_marks : DefAt K mg "new_marks" s_new_marks P_new_marks A.f_new_marks A.d_new_marks
  D_card_text : DefAt K mg "card_text" s_card_text P_card_text A.f_card_text A.d_card_text
  D_is_number_text : DefAt K mg "is_number_text" s_is_number_text P_is_number_text A.f_is_number_text A.d_is_number_text
  D_slit_of : DefAt K mg "slit_of" s_slit_of P_slit_of A.f_slit_of A.d_slit_of
  D_is_word_row : DefAt K mg "is_word_row" s_is_word_row P_is_word_row A.f_is_word_row A.d_is_word_row
  D_word_row_fault : DefAt K mg "word_row_fault" s_word_row_fault P_word_row_fault A.f_word_row_fault A.d_word_row_fault
  D_slit_row_fault : DefAt K mg "slit_row_fault" s_slit_row_fault P_slit_row_fault A.f_slit_row_fault A.d_slit_row_fault
  D_parse_card : DefAt K mg "parse_card" s_parse_card P_parse_card A.f_parse_card A.d_parse_card
  D_l_mix : DefAt K mg "_law_mix" s_l_mix P_l_mix A.f_l_mix A.d_l_mix
  D_l_hand : DefAt K mg "_law_hand" s_l_hand P_l_hand A.f_l_hand A.d_l_hand
  D_l_draw : DefAt K mg "_law_draw" s_l_draw P_l_draw A.f_l_draw A.d_l_draw
  D_l_word : DefAt K mg "_law_word" s_l_word P_l_word A.f_l_word A.d_l_word
  D_l_near : DefAt K mg "_law_near" s_l_near P_l_near A.f_l_near A.d_l_near
  D_l_words : DefAt K mg "_law_words" s_l_words P_l_words A.f_l_words A.d_l_words
  D_l_marks : DefAt K mg "_law_marks" s_l_marks P_l_marks A.f_l_marks A.d_l_marks
  D_l_text : DefAt K mg "_law_text" s_l_text P_l_text A.f_l_text A.d_l_text
  D_law : DefAt K mg "law" s_law P_law A.f_law A.d_law
  D_NoColumn___init__ : MetAt K "__init__" "NoColumn.__init__" s_NoColumn___init__ P_NoColumn___init__ A.f_NoColumn___init__ A.d_NoColumn___init__
  D_BadColumn___init__ : MetAt K "__init__" "BadColumn.__init__" s_BadColumn___init__ P_BadColumn___init__ A.f_BadColumn___init__ A.d_BadColumn___init__
  D_BadBoundary___init__ : MetAt K "__init__" "BadBoundary.__init__" s_BadBoundary___init__ P_BadBoundary___init__ A.f_BadBoundary___init__ A.d_BadBoundary___init__
  D_BadText___init__ : MetAt K "__init__" "BadText.__init__" s_BadText___init__ P_BadText___init__ A.f_BadText___init__ A.d_BadText___init__
  D_BadCard___init__ : MetAt K "__init__" "BadCard.__init__" s_BadCard___init__ P_BadCard___init__ A.f_BadCard___init__ A.d_BadCard___init__
  D_Column___init__ : MetAt K "__init__" "Column.__init__" s_Column___init__ P_Column___init__ A.f_Column___init__ A.d_Column___init__
  D_Column_many : MetAt K "many" "Column.many" s_Column_many P_Column_many A.f_Column_many A.d_Column_many
  D_Column_heights : MetAt K "heights" "Column.heights" s_Column_heights P_Column_heights A.f_Column_heights A.d_Column_heights
  D_Column___eq__ : MetAt K "__eq__" "Column.__eq__" s_Column___eq__ P_Column___eq__ A.f_Column___eq__ A.d_Column___eq__
  D_Column___str__ : MetAt K "__str__" "Column.__str__" s_Column___str__ P_Column___str__ A.f_Column___str__ A.d_Column___str__
  D_Column___len__ : MetAt K "__len__" "Column.__len__" s_Column___len__ P_Column___len__ A.f_Column___len__ A.d_Column___len__
  D_Column___iter__ : MetAt K "__iter__" "Column.__iter__" s_Column___iter__ P_Column___iter__ A.f_Column___iter__ A.d_Column___iter__
  D_Card___init__ : MetAtD K "__init__" "Card.__init__" s_Card___init__ P_Card___init__ A.f_Card___init__ A.d_Card___init__
  D_Card_of_words : CmAt K "of_words" "Card.of_words" s_Card_of_words "marks" A.f_Card_of_words A.te_Card_of_words
  D_Card_common : MetAt K "common" "Card.common" s_Card_common P_Card_common A.f_Card_common A.d_Card_common
  D_Card___eq__ : MetAt K "__eq__" "Card.__eq__" s_Card___eq__ P_Card___eq__ A.f_Card___eq__ A.d_Card___eq__
  D_Card___len__ : MetAt K "__len__" "Card.__len__" s_Card___len__ P_Card___len__ A.f_Card___len__ A.d_Card___len__
  D_Card___iter__ : MetAt K "__iter__" "Card.__iter__" s_Card___iter__ P_Card___iter__ A.f_Card___iter__ A.d_Card___iter__
  g_CardError : mg "CardError" = some (.ref A.C_CardError)
  x_NoColumn : ExC K mg "NoColumn" A.C_NoColumn A.f_NoColumn___init__
  g_NoColumn : mg "NoColumn" = some (.ref A.C_NoColumn)
  n_NoColumn_column : PySem.W.findIn K (.ref A.C_NoColumn) "column" = some none
  up_NoColumn_CardError : PySem.W.exmOne K (.ref A.C_NoColumn) (.ref A.C_CardError) = some true
  x_BadColumn : ExC K mg "BadColumn" A.C_BadColumn A.f_BadColumn___init__
  g_BadColumn : mg "BadColumn" = some (.ref A.C_BadColumn)
  n_BadColumn_what : PySem.W.findIn K (.ref A.C_BadColumn) "what" = some none
  up_BadColumn_CardError : PySem.W.exmOne K (.ref A.C_BadColumn) (.ref A.C_CardError) = some true
  x_BadBoundary : ExC K mg "BadBoundary" A.C_BadBoundary A.f_BadBoundary___init__
  g_BadBoundary : mg "BadBoundary" = some (.ref A.C_BadBoundary)
  n_BadBoundary_boundary : PySem.W.findIn K (.ref A.C_BadBoundary) "boundary" = some none
  up_BadBoundary_CardError : PySem.W.exmOne K (.ref A.C_BadBoundary) (.ref A.C_CardError) = some true
  x_BadText : ExC K mg "BadText" A.C_BadText A.f_BadText___init__
  g_BadText : mg "BadText" = some (.ref A.C_BadText)
  n_BadText_row : PySem.W.findIn K (.ref A.C_BadText) "row" = some none
  n_BadText_what : PySem.W.findIn K (.ref A.C_BadText) "what" = some none
  up_BadText_CardError : PySem.W.exmOne K (.ref A.C_BadText) (.ref A.C_CardError) = some true
  x_BadCard : ExC K mg "BadCard" A.C_BadCard A.f_BadCard___init__
  g_BadCard : mg "BadCard" = some (.ref A.C_BadCard)
  n_BadCard_index : PySem.W.findIn K (.ref A.C_BadCard) "index" = some none
  n_BadCard_what : PySem.W.findIn K (.ref A.C_BadCard) "what" = some none
  up_BadCard_CardError : PySem.W.exmOne K (.ref A.C_BadCard) (.ref A.C_CardError) = some true
  g_Column : mg "Column" = some (.ref A.C_Column)
  cl_Column : Cls K A.C_Column
  i1_Column : PySem.W.findIn K (.ref A.C_Column) "__class__" = some (some (.builtin "object.__class__"))
  i4_Column : PySem.W.mroIn K A.C_Column (.type "object") = some true
  ii_Column : PySem.W.kitOne K (.ref A.C_Column) (.ref A.C_Column) = some true
  it_str_Column : PySem.W.kitOne K (.type "str") (.ref A.C_Column) = some false
  it_int_Column : PySem.W.kitOne K (.type "int") (.ref A.C_Column) = some false
  it_bool_Column : PySem.W.kitOne K (.type "bool") (.ref A.C_Column) = some false
  it_NoneType_Column : PySem.W.kitOne K (.type "NoneType") (.ref A.C_Column) = some false
  it_list_Column : PySem.W.kitOne K (.type "list") (.ref A.C_Column) = some false
  it_tuple_Column : PySem.W.kitOne K (.type "tuple") (.ref A.C_Column) = some false
  it_dict_Column : PySem.W.kitOne K (.type "dict") (.ref A.C_Column) = some false
  ti_Column_str : PySem.W.kitOne K (.ref A.C_Column) (.type "str") = some false
  ti_Column_int : PySem.W.kitOne K (.ref A.C_Column) (.type "int") = some false
  ti_Column_bool : PySem.W.kitOne K (.ref A.C_Column) (.type "bool") = some false
  ti_Column_list : PySem.W.kitOne K (.ref A.C_Column) (.type "list") = some false
  ti_Column_tuple : PySem.W.kitOne K (.ref A.C_Column) (.type "tuple") = some false
  subt_Column : PySem.W.subIn K (.type "tuple") (.ref A.C_Column) = some false
  subl_Column : PySem.W.subIn K (.type "list") (.ref A.C_Column) = some false
  sub_Column : PySem.W.subIn K (.type "str") (.ref A.C_Column) = some false
  ne_Column : NeC K A.C_Column
  mk_Column : Mk K A.C_Column A.f_Column___init__
  n_Column_word : NoAttr K A.C_Column "word"
  n_Column_size : NoAttr K A.C_Column "size"
  o_Column_many : OwnM K A.C_Column "many" A.f_Column_many
  m_Column_many : Meth K A.C_Column "many" A.f_Column_many
  p_Column_heights : PropOf K A.C_Column "heights" A.p_Column_heights A.f_Column_heights
  o_Column___eq__ : OwnM K A.C_Column "__eq__" A.f_Column___eq__
  m_Column___eq__ : Meth K A.C_Column "__eq__" A.f_Column___eq__
  o_Column___str__ : OwnM K A.C_Column "__str__" A.f_Column___str__
  m_Column___str__ : Meth K A.C_Column "__str__" A.f_Column___str__
  o_Column___len__ : OwnM K A.C_Column "__len__" A.f_Column___len__
  m_Column___len__ : Meth K A.C_Column "__len__" A.f_Column___len__
  o_Column___iter__ : OwnM K A.C_Column "__iter__" A.f_Column___iter__
  m_Column___iter__ : Meth K A.C_Column "__iter__" A.f_Column___iter__
  g_Card : mg "Card" = some (.ref A.C_Card)
  cl_Card : Cls K A.C_Card
  i1_Card : PySem.W.findIn K (.ref A.C_Card) "__class__" = some (some (.builtin "object.__class__"))
  i4_Card : PySem.W.mroIn K A.C_Card (.type "object") = some true
  ii_Card : PySem.W.kitOne K (.ref A.C_Card) (.ref A.C_Card) = some true
  it_str_Card : PySem.W.kitOne K (.type "str") (.ref A.C_Card) = some false
  it_int_Card : PySem.W.kitOne K (.type "int") (.ref A.C_Card) = some false
  it_bool_Card : PySem.W.kitOne K (.type "bool") (.ref A.C_Card) = some false
  it_NoneType_Card : PySem.W.kitOne K (.type "NoneType") (.ref A.C_Card) = some false
  it_list_Card : PySem.W.kitOne K (.type "list") (.ref A.C_Card) = some false
  it_tuple_Card : PySem.W.kitOne K (.type "tuple") (.ref A.C_Card) = some false
  it_dict_Card : PySem.W.kitOne K (.type "dict") (.ref A.C_Card) = some false
  ti_Card_str : PySem.W.kitOne K (.ref A.C_Card) (.type "str") = some false
  ti_Card_int : PySem.W.kitOne K (.ref A.C_Card) (.type "int") = some false
  ti_Card_bool : PySem.W.kitOne K (.ref A.C_Card) (.type "bool") = some false
  ti_Card_list : PySem.W.kitOne K (.ref A.C_Card) (.type "list") = some false
  ti_Card_tuple : PySem.W.kitOne K (.ref A.C_Card) (.type "tuple") = some false
  subt_Card : PySem.W.subIn K (.type "tuple") (.ref A.C_Card) = some false
  subl_Card : PySem.W.subIn K (.type "list") (.ref A.C_Card) = some false
  sub_Card : PySem.W.subIn K (.type "str") (.ref A.C_Card) = some false
  ne_Card : NeC K A.C_Card
  cr_Card : ClX.CRead K A.C_Card (.type "type")
  mk_Card : Mk K A.C_Card A.f_Card___init__
  n_Card_columns : NoAttr K A.C_Card "columns"
  n_Card_size : NoAttr K A.C_Card "size"
  n_Card_width : NoAttr K A.C_Card "width"
  n_Card_words : NoAttr K A.C_Card "words"
  n_Card_marks : NoAttr K A.C_Card "marks"
  cm_Card_of_words : ClX.CMet K A.C_Card (.type "type") "of_words" A.p_Card_of_words A.f_Card_of_words
  o_Card_common : OwnM K A.C_Card "common" A.f_Card_common
  m_Card_common : Meth K A.C_Card "common" A.f_Card_common
  o_Card___eq__ : OwnM K A.C_Card "__eq__" A.f_Card___eq__
  m_Card___eq__ : Meth K A.C_Card "__eq__" A.f_Card___eq__
  o_Card___len__ : OwnM K A.C_Card "__len__" A.f_Card___len__
  m_Card___len__ : Meth K A.C_Card "__len__" A.f_Card___len__
  o_Card___iter__ : OwnM K A.C_Card "__iter__" A.f_Card___iter__
  m_Card___iter__ : Meth K A.C_Card "__iter__" A.f_Card___iter__
  c_MOST_SIZE : ∃ t, mg "MOST_SIZE" = some (.int 6 t)
  c_MOST_WIDTH : ∃ t, mg "MOST_WIDTH" = some (.int 12 t)
  c_DIGITS : ∃ t, mg "DIGITS" = some (.str (sOf [48, 49, 50, 51, 52, 53, 54, 55, 56, 57]) t)
  c_MOST_DIGITS : ∃ t, mg "MOST_DIGITS" = some (.int 3 t)
  i2 : PySem.W.specialIn K (.builtin "object.__class__") "__get__" = some (some (.builtin "getset_descriptor.__get__"))
  i3 : PySem.W.takesIn K (.builtin "object.__class__") = some true
  b_ValueError : mg "ValueError" = none
  b_abs : mg "abs" = none
  b_all : mg "all" = none
  b_bool : mg "bool" = none
  b_classmethod : mg "classmethod" = none
  b_enumerate : mg "enumerate" = none
  b_int : mg "int" = none
  b_isinstance : mg "isinstance" = none
  b_iter : mg "iter" = none
  b_len : mg "len" = none
  b_list : mg "list" = none
  b_property : mg "property" = none
  b_range : mg "range" = none
  b_sorted : mg "sorted" = none
  b_staticmethod : mg "staticmethod" = none
  b_str : mg "str" = none
  b_tuple : mg "tuple" = none


section
variable {P : Program} {w : World} {K : PySem.W.Frag} {mg : Str → Option Value} {base : Heap} {AD : Ads}
def spMix : Sp := fun vs H Q _ => ∃ n t : Int, vs = [.int n, .int t] ∧ (0 ≤ n ∧ n < 2147483648) ∧ (0 ≤ t ∧ t < 1000) ∧ ∀ r : Int, 0 ≤ r → Q (.int r) H
theorem ok_l_mix (T : Top K mg AD) : FnOk P w K mg base CX0 1 AD.f_l_mix AD.d_l_mix P_l_mix spMix := by
  refine T.D_l_mix.F.ok sc_l_mix (fun vs H Q E h => ?_) (fun cdv A outer s H vs Q E hr h => ?_)
  · obtain ⟨n, t, rfl, _⟩ := h
    rfl
  · obtain ⟨n, t, rfl, hn, ht, q⟩ := h
    refine ⟨_, (pss_cons (ps_set (i := 2) sc_l_mix.nd rfl (Or.inl rfl) (pe_op op_mod (pe_callTy call_int1 (by rfl) T.b_int (by decide +kernel) (pa_cons (pe_op op_add (pe_op op_add (pe_op op_mul (pv 0) pe_int) (pe_op op_mul (pv 1) pe_int)) pe_int) pa_nil)) pe_int))
    (pss_cons (ps_set (i := 3) sc_l_mix.nd rfl (Or.inl rfl) (pe_op op_mod (pe_callTy call_int1 (by rfl) T.b_int (by decide +kernel) (pa_cons (pe_op op_add (pe_op op_add (pe_op op_mul (pv 2) (pv 2)) (pe_op op_mul (pe_op op_fdiv (pv 2) pe_int) pe_int)) (pe_op op_mul (pv 1) pe_int)) pa_nil)) pe_int))
    (pss_one (ps_ret (pe_op op_fdiv (pe_op op_mod (pe_callTy call_int1 (by rfl) T.b_int (by decide +kernel) (pa_cons (pe_op op_add (pe_op op_fdiv (pe_op op_mul (pv 3) (pv 3)) pe_int) (pv 2)) pa_nil)) pe_int) pe_int))))), ?_⟩
    walk_at "go"
    exact q _ (by omega)
def spDraw : Sp := fun vs H Q _ => ∃ (a : Addr) (m : Int), vs = [.ref a, .int m] ∧ HandOk H a ∧ CDivW 0 m ∧ ∀ (d : Int) H', 0 ≤ d → d < m → But a H H' → HandOk H' a → Q (.int d) H'
/-! the rest of a draw: from the pending number on -/
set_option hygiene false in
local macro_rules | `(tactic| walk_at "tail") => `(tactic| (
    walk_at "go"
    refine ite2 (fun e => ?_) (fun e => ?_)
    · have e0 := of_decide_eq_true e
      walk_at "go"
      refine And.intro hm ?_
      walk_at "go"
      refine And.intro hm.1 ?_
      refine q _ _ (Int.emod_nonneg _ (by have := hm.1; omega)) (Int.emod_lt_of_pos _ hm.1) (But.upd hb) (HandOk.mk hal el (But.upd hb) upd_same hp hl hc (Int.ediv_nonneg (by omega) (by have := hm.1; omega)) ht)
    · walk_at "go"
      refine ⟨_, _, rfl, ⟨by omega, by omega⟩, ⟨by omega, by omega⟩, fun r hr0 => ?_⟩
      walk_at "go"
      refine And.intro hm.1 ?_
      refine q _ _ (Int.emod_nonneg _ (by have := hm.1; omega)) (Int.emod_lt_of_pos _ hm.1) (But.upd hb) (HandOk.mk hal el (But.upd hb) upd_same hp hl hc (by omega) (by omega))))

theorem ok_l_draw (T : Top K mg AD) : FnOk P w K mg base CX0 2 AD.f_l_draw AD.d_l_draw P_l_draw spDraw := by
  refine T.D_l_draw.F.ok sc_l_draw (fun vs H Q E h => ?_) (fun cdv A outer s H vs Q E hr h => ?_)
  · obtain ⟨n, t, rfl, _⟩ := h
    rfl
  · obtain ⟨a, m, rfl, hh, hm, q⟩ := h
    refine ⟨_, (pss_cons (ps_if (PW.pt (pw_and (pt_cmpR op_eq (pe_ix (ix_listK (K := K) rfl) (pv 0) pe_int (fun _ _ => rfl)) pe_int (nomark _)) (pw_and1 (pt_cmpR op_lt (pe_ix (ix_listK (K := K) rfl) (pv 0) pe_int (fun _ _ => rfl)) (pe_callB (call_lenQ (K := K) rfl) (by rfl) T.b_len (by decide +kernel) (pa_cons (pe_ix (ix_listK (K := K) rfl) (pv 0) pe_int (fun _ _ => rfl)) pa_nil)) (nomark _)))))
    (pss_cons (ps_set (i := 2) sc_l_draw.nd rfl (Or.inl rfl) (pe_ix (ix_listK (K := K) rfl) (pe_ix (ix_listK (K := K) rfl) (pv 0) pe_int (fun _ _ => rfl)) (pe_ix (ix_listK (K := K) rfl) (pv 0) pe_int (fun _ _ => rfl)) (fun _ _ => rfl)))
    (pss_cons (ps_asg (pe_op op_add (pe_ix (ix_listK (K := K) rfl) (pv 0) pe_int (fun _ _ => rfl)) pe_int) (pg_sub (pv 0) pe_int set_list))
    (pss_cons (ps_if (pt_cmpR op_lt (pv 2) (pe_op op_pow pe_int pe_int) (nomark _))
    (pss_one (ps_ret (pe_op op_mod (pe_callTy call_int1 (by rfl) T.b_int (by decide +kernel) (pa_cons (callD T.D_l_mix (ok_l_mix T) hr (pa_cons (pe_op op_mod (pe_callTy call_int1 (by rfl) T.b_int (by decide +kernel) (pa_cons (pv 2) pa_nil)) pe_int) (pa_cons (pe_ix (ix_listK (K := K) rfl) (pv 0) pe_int (fun _ _ => rfl)) pa_nil))) pa_nil)) (pv 1))))
    pss_nil)
    (pss_one (ps_asg (pv 2) (pg_sub (pv 0) pe_int set_list))))))
    pss_nil)
    (pss_cons (ps_if (pt_cmpR op_gt (pe_ix (ix_listK (K := K) rfl) (pv 0) pe_int (fun _ _ => rfl)) pe_int (nomark _))
    (pss_cons (ps_set (i := 3) sc_l_draw.nd rfl (Or.inl rfl) (pe_ix (ix_listK (K := K) rfl) (pv 0) pe_int (fun _ _ => rfl)))
    (pss_cons (ps_asg (pe_op op_fdivW (pv 3) (pv 1)) (pg_sub (pv 0) pe_int set_list))
    (pss_one (ps_ret (pe_op op_mod (pe_callTy call_int1 (by rfl) T.b_int (by decide +kernel) (pa_cons (pv 3) pa_nil)) (pv 1))))))
    pss_nil)
    (pss_cons (ps_asg (pe_op op_mod (pe_callTy call_int1 (by rfl) T.b_int (by decide +kernel) (pa_cons (pe_op op_add (pe_ix (ix_listK (K := K) rfl) (pv 0) pe_int (fun _ _ => rfl)) pe_int) pa_nil)) pe_int) (pg_sub (pv 0) pe_int set_list))
    (pss_one (ps_ret (pe_op op_mod (pe_callTy call_int1 (by rfl) T.b_int (by decide +kernel) (pa_cons (callD T.D_l_mix (ok_l_mix T) hr (pa_cons (pe_ix (ix_listK (K := K) rfl) (pv 0) pe_int (fun _ _ => rfl)) (pa_cons (pe_ix (ix_listK (K := K) rfl) (pv 0) pe_int (fun _ _ => rfl)) pa_nil))) pa_nil)) (pv 1))))))), ?_⟩
    obtain ⟨l, cells, pos, pend, tot, ea, el, hp, hl, hc, hpe, ht⟩ := id hh
    have hal : a ≠ l := by
      intro e
      subst e
      rw [ea] at el
      cases cells with
      | nil => cases el
      | cons c r => cases el
    obtain ⟨cn, hcn⟩ : ∃ cn : Nat, pos = (cn : Int) := ⟨pos.toNat, by omega⟩
    subst hcn
    walk_at "go"
    refine ite2 (fun e => ?_) (fun e => ?_)
    · have e0 : pend = 0 := V.int.inj (of_decide_eq_true e)
      subst e0
      walk_at "go"
      refine ite2 (fun e2 => ?_) (fun e2 => ?_)
      · have e3 := of_decide_eq_true e2
        rw [List.length_map] at e3
        have e4 : cn < cells.length := by omega
        have hce : 0 ≤ cells[cn] := hc _ (List.getElem_mem e4)
        walk_at "go"
        refine ⟨_, _, _, _, rfl, rfl, SqL.of el, atI_nat (j := cn) (v := .int cells[cn]) (by simp [e4]), ?_⟩
        walk_at "go"
        refine ite2 (fun e5 => ?_) (fun e5 => ?_)
        · walk_at "go"
          refine ⟨_, _, rfl, ⟨by omega, by omega⟩, ⟨by omega, by omega⟩, fun r hr0 => ?_⟩
          walk_at "go"
          refine And.intro hm.1 ?_
          exact q _ _ (Int.emod_nonneg _ (by have := hm.1; omega)) (Int.emod_lt_of_pos _ hm.1) (But.upd (But.refl a H)) (HandOk.mk hal el (But.upd (But.refl a H)) upd_same ⟨by omega, by omega⟩ hl hc (by omega) ht)
        · walk_at "go"
          have hb : But a H (upd (upd H a (.lst [.ref l, .int (cn + 1), .int 0, .int tot])) a (.lst [.ref l, .int (cn + 1), .int cells[cn], .int tot])) := But.upd (But.upd (But.refl a H))
          have hp' : 0 ≤ (cn : Int) + 1 ∧ (cn : Int) + 1 ≤ 63 := ⟨by omega, by omega⟩
          clear hp
          have hp := hp'
          walk_at "tail"
      · have hb := But.refl a H
        walk_at "go"
        refine ⟨_, _, rfl, ⟨by omega, by omega⟩, ⟨by omega, by omega⟩, fun r hr0 => ?_⟩
        walk_at "go"
        refine And.intro hm.1 ?_
        refine q _ _ (Int.emod_nonneg _ (by have := hm.1; omega)) (Int.emod_lt_of_pos _ hm.1) (But.upd hb) (HandOk.mk hal el (But.upd hb) upd_same hp hl hc (by omega) (by omega))
    · have hb := But.refl a H
      walk_at "tail"

def spHand (K : PySem.W.Frag) : Sp := fun vs H Q _ => ∃ (a : Addr) (ns : List Int), vs = [.ref a] ∧ SqL K H a (ns.map V.int) ∧ ns.length ≤ 63 ∧ ∀ p H', Same H H' → H p = none → HandOk H' p → Q (.ref p) H'
theorem ok_l_hand (T : Top K mg AD) : FnOk P w K mg base CX0 1 AD.f_l_hand AD.d_l_hand P_l_hand (spHand K) := by
  refine T.D_l_hand.F.ok sc_l_hand (fun vs H Q E h => ?_) (fun cdv A outer s H vs Q E hr h => ?_)
  · obtain ⟨n, t, rfl, _⟩ := h
    rfl
  · obtain ⟨a, ns, rfl, hS, hlen, q⟩ := h
    refine ⟨_, (pss_cons (ps_set (i := 1) sc_l_hand.nd rfl (Or.inl rfl) pe_int)
    (pss_cons (ps_for PassesOwn.never rfl (pi_enum (by rfl) T.b_enumerate (pa_cons (pv 0) pa_nil)) (pg_tup (by rfl) (pgs_cons (pg_name (i := 2) sc_l_hand.nd rfl (Or.inl rfl)) (pgs_cons (pg_name (i := 3) sc_l_hand.nd rfl (Or.inl rfl)) pgs_nil)))
    (pss_one (ps_set (i := 1) sc_l_hand.nd rfl (Or.inl rfl) (pe_op op_mod (pe_callTy call_int1 (by rfl) T.b_int (by decide +kernel) (pa_cons (pe_op op_add (pe_op op_mul (pv 1) pe_int) (pe_op op_mul (pe_callTy call_int1 (by rfl) T.b_int (by decide +kernel) (pa_cons (pv 3) pa_nil)) (pe_op op_add (pv 2) pe_int))) pa_nil)) pe_int))))
    (pss_one (ps_ret (pe_lst (pa_cons (pe_lc (own := [("_law_cell", 3)]) (g := (gName 3)) (tt := tYes) rfl sc_l_hand.nd (pi_list (pv 0)) (blkOk_by (N := N_l_hand) (sc := defScope s_l_hand) (by decide +kernel)) (fun _ _ _ _ _ => (pg_name (i := 3) sc_l_hand.nd rfl (by first | exact Or.inl rfl | exact Or.inr rfl))) (fun _ _ _ _ _ => pts_nil) (fun _ _ _ _ _ => (pe_callB call_abs (by rfl) T.b_abs (by decide +kernel) (pa_cons (pe_callTy call_int1 (by rfl) T.b_int (by decide +kernel) (pa_cons (pv 3) pa_nil)) pa_nil)))) (pa_cons pe_int (pa_cons pe_int (pa_cons (pv 1) pa_nil))))))))), ?_⟩
    walk_at "go"
    refine ⟨_, _, rfl, hS, ?_⟩
    refine for_it walk_enum (fun i σ H' => ∃ tot o2 o3, σ = [some (.ref a), some (.int tot), o2, o3] ∧ (0 ≤ tot ∧ tot < 2147483629) ∧ Same H H') ⟨0, none, none, rfl, by omega, Same.refl H⟩ (fun i σ H' hi ⟨_, _, _, _, _, s2⟩ => s2.seq hS) ?_ ?_
    · rintro i x σ H1 H2 hi ⟨tot, o2, o3, rfl, ht, s1⟩ ⟨T', x1, x2, rfl, hT, rfl, e1, e2⟩
      rw [List.length_map] at hi
      obtain rfl := Option.some.inj e1
      obtain rfl : V.int ns[i] = x2 := by simpa [hi] using e2
      refine ⟨T', [.int i, .int ns[i]], rfl, .inl (.inl upd_same), rfl, .int i, [.int ns[i]], rfl, .int ns[i], [], rfl, rfl, ?_⟩
      walk_at "go"
      exact ⟨_, _, _, rfl, ⟨by omega, by omega⟩, same_new s1 hT⟩
    · rintro σ H1 ⟨tot, o2, o3, rfl, ht, s1⟩
      walk_at "go"
      refine ⟨⟨_, s1.seq hS⟩, ?_⟩
      intro Dl hD
      refine lc_it (walk_list (xs := ns.map V.int)) (fun i H' => But Dl H1 H' ∧ H' Dl = some (.lst ((ns.take i).map fun z => V.int (if z < 0 then -z else z)))) ⟨But.upd (But.refl _ _), upd_same⟩ (fun i H' hi h => (s1.trans (same_but (Same.refl _) hD h.1)).seq hS) ?_ ?_
      · rintro i x H2 H3 hi ⟨b2, e2⟩ ⟨rfl, ex⟩
        rw [List.length_map] at hi
        obtain rfl : V.int ns[i] = x := by simpa [hi] using ex
        refine ⟨rfl, ?_⟩
        walk_at "go"
        refine ⟨_, e2, ?_, But.upd b2, ?_⟩
        · rw [List.length_map]
          exact small1000 (by have := List.length_take_le i ns; omega)
        · rw [upd_same, List.take_add_one, List.getElem?_eq_getElem hi, List.map_append]
          rfl
      · rintro H2 ⟨b2, e2⟩
        rw [List.length_map, List.take_length] at e2
        have s2 : Same H H2 := s1.trans (same_but (Same.refl _) hD b2)
        walk_at "go"
        refine ⟨(by show 4 ≤ sizeLine; decide), fun p hp => ?_⟩
        have hpd : Dl ≠ p := ne_of_none e2 hp
        refine q p _ (same_new s2 hp) (same_free s2 hp) ⟨Dl, ns.map fun z => if z < 0 then -z else z, 0, 0, tot, upd_same, ?_, by omega, by rw [List.length_map]; exact hlen, ?_, by omega, ht⟩
        · rw [upd_ne hpd, e2, List.map_map]
          rfl
        · intro c hc
          obtain ⟨z, _, rfl⟩ := List.mem_map.mp hc
          split <;> omega

def spWord : Sp := fun vs H Q _ => ∃ (a : Addr) (n : Nat), vs = [.ref a, .int n] ∧ (1 ≤ n ∧ n ≤ 6) ∧ HandOk H a ∧ ∀ l H', Good l n → But a H H' → HandOk H' a → Q (.str (sOf l)) H'
theorem ok_l_word (T : Top K mg AD) : FnOk P w K mg base CX0 3 AD.f_l_word AD.d_l_word P_l_word spWord := by
  refine T.D_l_word.F.ok sc_l_word (fun vs H Q E h => ?_) (fun cdv A outer s H vs Q E hr h => ?_)
  · obtain ⟨n, t, rfl, _⟩ := h
    rfl
  · obtain ⟨a, n, rfl, hn, hh, q⟩ := h
    refine ⟨_, (pss_cons (ps_set (i := 2) sc_l_word.nd rfl (Or.inl rfl) (pe_s (x := Str.ofString "") [] (by decide +kernel)))
    (pss_cons (ps_set (i := 3) sc_l_word.nd rfl (Or.inl rfl) pe_int)
    (pss_cons (ps_for PassesOwn.never rfl (pi_range1 (by rfl) T.b_range (pa_cons (pe_op op_mul pe_int (pv 1)) pa_nil)) (pg_name (i := 4) sc_l_word.nd rfl (Or.inl rfl))
    (pss_cons (ps_set (i := 5) sc_l_word.nd rfl (Or.inl rfl) (pe_cmpR op_gt (pv 3) pe_int (nomark _)))
    (pss_cons (ps_set (i := 6) sc_l_word.nd rfl (Or.inl rfl) (pe_cmpR op_lt (pe_m1 PySem.F.slot_str_count PySem.F.type_str_count mt_countS (pv 2) (pe_s (x := Str.ofString "d") [100] (by decide +kernel))) (pv 1) (nomark _)))
    (pss_one (ps_if (PW.pt (pw_and (pt_val (pv 6)) (pw_and1 (PW.pt (pw_or (pt_not (pt_val (pv 5))) (pw_or1 (pt_cmpR op_eq (callD T.D_l_draw (ok_l_draw T) hr (pa_cons (pv 0) (pa_cons pe_int pa_nil))) pe_int (nomark _))))))))
    (pss_cons (ps_set (i := 2) sc_l_word.nd rfl (Or.inl rfl) (pe_op op_addS (pv 2) (pe_s (x := Str.ofString "d") [100] (by decide +kernel))))
    (pss_one (ps_set (i := 3) sc_l_word.nd rfl (Or.inl rfl) (pe_op op_add (pv 3) pe_int))))
    (pss_cons (ps_set (i := 2) sc_l_word.nd rfl (Or.inl rfl) (pe_op op_addS (pv 2) (pe_s (x := Str.ofString "o") [111] (by decide +kernel))))
    (pss_one (ps_set (i := 3) sc_l_word.nd rfl (Or.inl rfl) (pe_op op_sub (pv 3) pe_int)))))))))
    (pss_one (ps_ret (pv 2)))))), ?_⟩
    walk_at "go"
    refine for_it (walk_range (lo := 0) (n := (2 * (n : Int)).toNat)) (fun i σ H' => ∃ (l : List Nat) (o4 o5 o6 : Option V), σ = [some (.ref a), some (.int n), some (.str (sOf l)), some (.int ((l.count 100 : Int) - l.count 111)), o4, o5, o6] ∧ Part l n ∧ l.length = i ∧ But a H H' ∧ HandOk H' a)
      ⟨[], none, none, none, rfl, Part.nil n, rfl, But.refl a H, hh⟩ (fun _ _ _ _ _ => trivial) ?_ ?_
    · rintro i x σ H1 H2 hi ⟨l, o4, o5, o6, rfl, pl, ll, hb, hh1⟩ ⟨rfl, rfl⟩
      have cnt := ltr_count pl.ltr
      have ple := pl.le
      have c100 := pl.cnt
      have pl' := pl
      walk_at "go"
      refine ite2 (fun e1 => ?_) (fun e1 => ?_)
      · have f1 := of_decide_eq_true e1
        walk_at "go"
        refine ite2 (fun e2 => ?_) (fun e2 => ?_)
        · walk_at "go"
          exact ⟨l ++ [100], _, _, _, by rw [cnt_d]; rfl, pl.snoc (.inl ⟨rfl, by omega⟩), by simp [ll], hb, hh1⟩
        · have f2 : (0 : Int) < (l.count 100 : Int) - l.count 111 := by simpa using e2
          walk_at "go"
          refine ⟨_, _, rfl, hh1, cdivw (by decide) (by decide), fun d H3 hd0 hd1 hb3 hh3 => ?_⟩
          walk_at "go"
          refine ite2 (fun e3 => ?_) (fun e3 => ?_)
          · walk_at "go"
            exact ⟨l ++ [100], _, _, _, by rw [cnt_d]; rfl, pl.snoc (.inl ⟨rfl, by omega⟩), by simp [ll], hb.trans hb3, hh3⟩
          · walk_at "go"
            exact ⟨l ++ [111], _, _, _, by rw [cnt_o]; rfl, pl.snoc (.inr ⟨rfl, by omega⟩), by simp [ll], hb.trans hb3, hh3⟩
      · have f1 : ¬ ((l.count 100 : Nat) : Int) < n := fun z => e1 (decide_eq_true z)
        walk_at "go"
        exact ⟨l ++ [111], _, _, _, by rw [cnt_o]; rfl, pl.snoc (.inr ⟨rfl, by omega⟩), by simp [ll], hb, hh1⟩
    · rintro σ H1 ⟨l, o4, o5, o6, rfl, pl, ll, hb, hh1⟩
      walk_at "go"
      exact q _ _ (pl.good (by omega)) hb hh1
end

/-! ### word_fault -/
section
variable {P : Program} {w : World} {K : PySem.W.Frag} {mg : Str → Option Value} {base : Heap} {AD : Ads}
/-- not opened by itself: an inductive -/
inductive spWf (K : PySem.W.Frag) (vs : List V) (H : Hp) (Q : VK) (E : XK) : Prop where
  | is (h : ∃ v, vs = [v] ∧ ((∃ l, v = .str (sOf l) ∧ l.length ≤ 1000 ∧ ∀ H', Same H H' → Q (optV (wfault l)) H') ∨
  (∃ t, TyX K H v t ∧ PySem.W.kitOne K t (.type "str") = some false ∧ Q (.str (sOf wWord)) H)))
  | no (h : False)
theorem spWf.out {K : PySem.W.Frag} {vs : List V} {H : Hp} {Q : VK} {E : XK} (b : spWf K vs H Q E) : ∃ v, vs = [v] ∧ ((∃ l, v = .str (sOf l) ∧ l.length ≤ 1000 ∧ ∀ H', Same H H' → Q (optV (wfault l)) H') ∨
  (∃ t, TyX K H v t ∧ PySem.W.kitOne K t (.type "str") = some false ∧ Q (.str (sOf wWord)) H)) := by
  cases b with
  | is h => exact h
  | no h => exact h.elim
theorem ok_word_fault (T : Top K mg AD) : FnOk P w K mg base CX0 1 AD.f_word_fault AD.d_word_fault P_word_fault (spWf K) := by
  refine T.D_word_fault.F.ok sc_word_fault (fun vs H Q E h => ?_) (fun cdv A outer s H vs Q E hr h => ?_)
  · obtain ⟨v, rfl, _⟩ := h.out
    rfl
  · obtain ⟨v, rfl, q⟩ := h.out
    obtain ⟨_, hc_MOST_SIZE⟩ := T.c_MOST_SIZE
    refine ⟨_, (pss_cons (ps_if (PW.pt (pw_or (pt_not (pt_val (pe_callB (call_isiK' (K := K) rfl) (by rfl) T.b_isinstance (by decide +kernel) (pa_cons (pv 0) (pa_cons (pe_bltn (v := .ty "str") (u := .type "str") (by rfl) T.b_str (by decide +kernel) rfl) pa_nil))))) (pw_or1 (pt_not (pt_chain op_le op_le pe_int (pe_callB call_lenS (by rfl) T.b_len (by decide +kernel) (pa_cons (pv 0) pa_nil)) (pe_op op_mul pe_int (pe_glob (v := .int 6) rfl hc_MOST_SIZE ⟨_, rfl⟩)))))))
    (pss_one (ps_ret (pe_s (x := Str.ofString "word") [119, 111, 114, 100] (by decide +kernel))))
    pss_nil)
    (pss_cons (ps_if (pt_not (pt_val (pe_callB (cr_all rfl) (by rfl) T.b_all (by decide +kernel) (pa_cons (pe_lc (own := [("letter", 3)]) (g := (gName 3)) (tt := tYes) rfl sc_word_fault.nd (pi_str (pv 0)) (blkOk_by (N := N_word_fault) (sc := defScope s_word_fault) (by decide +kernel)) (fun _ _ _ _ _ => (pg_name (i := 3) sc_word_fault.nd rfl (by first | exact Or.inl rfl | exact Or.inr rfl))) (fun _ _ _ _ _ => pts_nil) (fun _ _ _ _ _ => (pe_cmpR (op_inK (K := K) rfl) (pv 3) (pe_tup (pa_cons (pe_s (x := Str.ofString "d") [100] (by decide +kernel)) (pa_cons (pe_s (x := Str.ofString "o") [111] (by decide +kernel)) pa_nil))) (by rfl)))) pa_nil))))
    (pss_one (ps_ret (pe_s (x := Str.ofString "word") [119, 111, 114, 100] (by decide +kernel))))
    pss_nil)
    (pss_cons (ps_if (pt_cmpR op_ne (pe_m1 PySem.F.slot_str_count PySem.F.type_str_count mt_countS (pv 0) (pe_s (x := Str.ofString "d") [100] (by decide +kernel))) (pe_m1 PySem.F.slot_str_count PySem.F.type_str_count mt_countS (pv 0) (pe_s (x := Str.ofString "o") [111] (by decide +kernel))) (nomark _))
    (pss_one (ps_ret (pe_s (x := Str.ofString "count") [99, 111, 117, 110, 116] (by decide +kernel))))
    pss_nil)
    (pss_cons (ps_for PassesOwn.never rfl (pi_range1 (by rfl) T.b_range (pa_cons (pe_callB call_lenS (by rfl) T.b_len (by decide +kernel) (pa_cons (pv 0) pa_nil)) pa_nil)) (pg_name (i := 1) sc_word_fault.nd rfl (Or.inl rfl))
    (pss_cons (ps_set (i := 2) sc_word_fault.nd rfl (Or.inl rfl) (pe_slice sl_S (pv 0) po_none (po_some (pv 1))))
    (pss_one (ps_if (pt_cmpR op_gt (pe_m1 PySem.F.slot_str_count PySem.F.type_str_count mt_countS (pv 2) (pe_s (x := Str.ofString "o") [111] (by decide +kernel))) (pe_m1 PySem.F.slot_str_count PySem.F.type_str_count mt_countS (pv 2) (pe_s (x := Str.ofString "d") [100] (by decide +kernel))) (nomark _))
    (pss_one (ps_ret (pe_s (x := Str.ofString "below") [98, 101, 108, 111, 119] (by decide +kernel))))
    pss_nil))))
    (pss_one (ps_ret pe_non)))))), ?_⟩
    walk_at "go"
    rcases q with ⟨l, rfl, hl, q⟩ | ⟨t, ty, kt, q⟩
    · refine ⟨_, _, _, _, true, rfl, .ty _, .base (.str _), kit_ty (by decide +kernel), ?_⟩
      walk_at "go"
      refine ite2 (fun e => ?_) (fun e => ?_)
      rotate_left
      · have f : wfault l = some wWord := by
          unfold wfault
          rw [if_neg (fun z => e (decide_eq_true (by omega)))]
        walk_at "go"
        have q1 := q H (Same.refl H)
        rw [f] at q1
        exact q1
      have f2 : 2 ≤ l.length := by have := of_decide_eq_true e; omega
      walk_at "go"
      refine ite2 (fun e => ?_) (fun e => ?_)
      · have f : wfault l = some wWord := by
          have e3 : ¬ ((l.length : Nat) : Int) ≤ 12 := by simpa using e
          unfold wfault
          rw [if_neg (by omega)]
        walk_at "go"
        have q1 := q H (Same.refl H)
        rw [f] at q1
        exact q1
      have f12 : l.length ≤ 12 := by
        have e3 : ((l.length : Nat) : Int) ≤ 12 := by simpa using e
        omega
      walk_at "go"
      intro Dl hD
      refine lc_it walk_S (fun i H' => But Dl H H' ∧ H' Dl = some (.lst ((l.take i).map fun c => V.bl (c == 100 || c == 111)))) ⟨But.upd (But.refl _ _), upd_same⟩ (fun _ _ _ _ => trivial) ?_ ?_
      · rintro i x H2 H3 hi ⟨b2, e2⟩ ⟨rfl, c, hc, rfl⟩
        walk_at "go"
        refine ⟨szl (by decide), fun p hp => ?_⟩
        have hpd : Dl ≠ p := ne_of_none e2 hp
        refine ⟨p, _, rfl, .inr (SqT.of upd_same), rfl, rfl, ?_⟩
        refine ⟨_, (upd_ne hpd).trans e2, ?_, But.upd (b2.new hp), ?_⟩
        · rw [List.length_map]
          exact small1000 (by have := List.length_take_le i l; omega)
        · rw [upd_same, List.take_add_one, hc, List.map_append]
          show some (HO.lst (_ ++ [V.bl (if false = true then _ else _)])) = _
          rw [if_neg Bool.false_ne_true, inV_do]
          rfl
      · rintro H2 ⟨b2, e2⟩
        rw [List.take_length] at e2
        have s2 : Same H H2 := same_but (Same.refl _) hD b2
        walk_at "go"
        refine ⟨Dl, l.map fun c => c == 100 || c == 111, rfl, SqL.of (by rw [e2, List.map_map]; rfl), ?_⟩
        walk_at "go"
        have hall : (l.map fun c => c == 100 || c == 111).all id = ltrs l := by
          unfold ltrs
          rw [List.all_map]
          rfl
        rw [hall]
        refine ite2 (fun e => ?_) (fun e => ?_)
        · have f : wfault l = some wWord := by
            have e3 : ltrs l = false := by simpa using e
            unfold wfault
            rw [if_pos ⟨f2, f12⟩, e3, if_neg Bool.false_ne_true]
          walk_at "go"
          have q1 := q H2 s2
          rw [f] at q1
          exact q1
        have fl : ltrs l = true := by simpa using e
        walk_at "go"
        refine ite2 (fun e => ?_) (fun e => ?_)
        · have f : wfault l = some wCount := by
            have e3 : ¬ l.count 100 = l.count 111 := fun z => by rw [z] at e; simp at e
            unfold wfault
            rw [if_pos ⟨f2, f12⟩, if_pos fl, if_neg e3]
          walk_at "go"
          have q1 := q H2 s2
          rw [f] at q1
          exact q1
        have fc : l.count 100 = l.count 111 := by
          have e3 : V.int (l.count 100 : Nat) = V.int (l.count 111 : Nat) := by simpa using e
          exact Int.ofNat.inj (V.int.inj e3)
        walk_at "go"
        refine for_it (walk_range (lo := 0) (n := (l.length : Int).toNat)) (fun i σ H' => ∃ (o1 o2 o3 : Option V), σ = [some (.str (sOf l)), o1, o2, o3] ∧ H' = H2 ∧ ∀ k, k < i → lowAt l k = false)
          ⟨none, none, none, rfl, rfl, fun k hk => absurd hk (Nat.not_lt_zero k)⟩ (fun _ _ _ _ _ => trivial) ?_ ?_
        · rintro i x σ H3 H4 hi ⟨o1, o2, o3, rfl, rfl, hk⟩ ⟨rfl, rfl⟩
          have hi2 : i < l.length := by omega
          walk_at "go"
          have hcut : cutN l none (some (0 + (i : Int))) = l.take i := by
            rw [cutN_take l (by omega), show (0 + (i : Int)).toNat = i by omega]
          rw [hcut]
          refine ite2 (fun e => ?_) (fun e => ?_)
          · have f : wfault l = some wBelow := by
              have e3 := of_decide_eq_true e
              unfold wfault
              rw [if_pos ⟨f2, f12⟩, if_pos fl, if_pos fc, if_pos]
              rw [List.any_eq_true]
              exact ⟨i, List.mem_range.mpr hi2, decide_eq_true (by omega)⟩
            walk_at "go"
            have q1 := q _ s2
            rw [f] at q1
            exact q1
          · have e3 : ¬ (((l.take i).count 100 : Nat) : Int) < ((l.take i).count 111 : Nat) := fun z => e (decide_eq_true z)
            walk_at "go"
            refine ⟨_, _, _, rfl, rfl, fun k hk2 => ?_⟩
            by_cases hki : k = i
            · subst hki
              exact decide_eq_false (by omega)
            · exact hk k (by omega)
        · rintro σ H3 ⟨o1, o2, o3, rfl, rfl, hk⟩
          have f : wfault l = none := by
            unfold wfault
            rw [if_pos ⟨f2, f12⟩, if_pos fl, if_pos fc, if_neg]
            rw [List.any_eq_true]
            rintro ⟨k, hm, hl2⟩
            rw [hk k (by have := List.mem_range.mp hm; omega)] at hl2
            exact absurd hl2 Bool.false_ne_true
          walk_at "go"
          have q1 := q _ s2
          rw [f] at q1
          exact q1
    · refine ⟨_, _, _, _, false, rfl, .ty _, ty, kt, ?_⟩
      walk_at "go"
      exact q
end

/-! ### BadColumn, Column -/
section
variable {P : Program} {w : World} {K : PySem.W.Frag} {mg : Str → Option Value} {base : Heap} {AD : Ads}
theorem ok_BadColumn___init__ (T : Top K mg AD) : FnOk P w K mg base CX0 1 AD.f_BadColumn___init__ AD.d_BadColumn___init__ P_BadColumn___init__ (spE1 K "what") := by
  refine T.D_BadColumn___init__.F.ok sc_BadColumn___init__ (fun vs H Q E h => ?_) (fun cdv A outer s H vs Q E hr h => ?_)
  · obtain ⟨a, C, v, rfl, _⟩ := h
    rfl
  · obtain ⟨a, C, v, rfl, ho, hn, ha, q⟩ := h
    refine ⟨_, (pss_one (ps_ost (pv 0) (pv 1))), ?_⟩
    walk_at "go"
    exact ⟨a, C, rfl, ho, hn, .inl ⟨ha, fun dx n ne => q dx n ne⟩⟩
/-- a Column of the word l stands at x -/
def ColAt (C : Addr) (H : Hp) (x : Addr) (l : List Nat) : Prop := ∃ dx, H x = some (.ins C dx [("word", .str (sOf l)), ("size", .int (l.count 100 : Nat))])
def spCol (K : PySem.W.Frag) (AD : Ads) : Sp := fun vs H Q E => ∃ (x dx : Addr) (v : V), vs = [.ref x, v] ∧ H x = some (.ins AD.C_Column dx []) ∧
  ((∃ l, v = .str (sOf l) ∧ l.length ≤ 1000 ∧ (wfault l = none → ∀ H', But x H H' → ColAt AD.C_Column H' x l → Q .non H') ∧
    (∀ f, wfault l = some f → ∀ d H', Same H H' → H d = none → H' d = some (.xd [("what", .str (sOf f))]) → E (.ref AD.C_BadColumn) (some d) H')) ∨
   (∃ t, TyX K H v t ∧ PySem.W.kitOne K t (.type "str") = some false ∧ ∀ d H', Same H H' → H d = none → H' d = some (.xd [("what", .str (sOf wWord))]) → E (.ref AD.C_BadColumn) (some d) H'))
theorem ok_Column___init__ (T : Top K mg AD) : FnOk P w K mg base (L2.CX P w) 3 AD.f_Column___init__ AD.d_Column___init__ P_Column___init__ (spCol K AD) := by
  refine T.D_Column___init__.F.okX sc_Column___init__ (fun vs H Q E h => ?_) (fun cdv A outer s H vs Q E hr h => ?_)
  · obtain ⟨a, C, v, rfl, _⟩ := h
    rfl
  · obtain ⟨x, dx, v, rfl, hx, q⟩ := h
    have X1 := T.x_BadColumn
    refine ⟨_, (pss_cons (ps_set (i := 2) sc_Column___init__.nd rfl (Or.inl rfl) (callD T.D_word_fault (ok_word_fault T) hr (pa_cons (pv 1) pa_nil)))
    (pss_cons (ps_if (pt_cmpR op_notN (pv 2) pe_non (nomark _))
    (pss_one (ps_raise rfl (takes_of rfl rfl rfl rfl) (pmk_oex T.x_BadColumn.oex T.x_BadColumn.ini T.x_BadColumn.tI (ok_BadColumn___init__ T) (hr.mono (by decide)) T.D_BadColumn___init__.b .nil pass0 (by rfl) T.x_BadColumn.g (pa_cons (pv 2) pa_nil))))
    pss_nil)
    (pss_cons (ps_fld (pv 0) (pv 1) rfl)
    (pss_one (ps_fld (pv 0) (pe_m1 PySem.F.slot_str_count PySem.F.type_str_count mt_countS (pv 1) (pe_s (x := Str.ofString "d") [100] (by decide +kernel))) rfl))))), ?_⟩
    walk_at "go"
    rcases q with ⟨l, rfl, hl, q1, q2⟩ | ⟨t, ty, kt, q2⟩
    · refine .is ⟨_, rfl, .inl ⟨l, rfl, hl, fun H1 s1 => ?_⟩⟩
      walk_at "go"
      cases hw : wfault l with
      | some f =>
        walk_at "go"
        exact (made1 X1.oex T.n_BadColumn_what fun d H' s' n e => q2 f hw d H' (s1.trans s') (s1.free n) e).2
      | none =>
        walk_at "go"
        refine ⟨x, _, dx, _, rfl, s1 _ _ hx, T.cl_Column, T.n_Column_word, by show 0 < 1000; decide, ?_⟩
        walk_at "go"
        refine ⟨x, _, dx, _, rfl, upd_same, T.cl_Column, T.n_Column_size, by show 1 < 1000; decide, ?_⟩
        refine q1 hw _ (fun b o nb e => ?_) ⟨dx, upd_same⟩
        rw [upd_ne nb, upd_ne nb]
        exact s1 b o e
    · refine .is ⟨_, rfl, .inr ⟨t, ty, kt, ?_⟩⟩
      walk_at "go"
      exact (made1 X1.oex T.n_BadColumn_what fun d H' s' n e => q2 d H' s' n e).2
theorem col_made {l : List Nat} (f : wfault l = none) (hl : l.length ≤ 1000) {H : Hp} {Q : Hp → Prop} {E : XK} {y dy : Addr} (ny : H y = none) (ndy : H dy = none) (ne : dy ≠ y) (k : ∀ H', Same H H' → ColAt AD.C_Column H' y l → Q H') :
    spCol K AD [.ref y, .str (sOf l)] (upd (upd H dy (.own y)) y (.ins AD.C_Column dy [])) (fun v H2 => v = .non ∧ Q H2) E :=
  ⟨y, dy, _, rfl, upd_same, .inl ⟨l, rfl, hl, fun _ H' bt ca => ⟨rfl, k H' (fun b o e => bt b o (ne_of_none e ny) (same_new (same_new (Same.refl H) ndy) ((upd_ne (Ne.symm ne)).trans ny) b o e)) ca⟩, fun g hg => by rw [f] at hg; cases hg⟩⟩
end

/-! ### whole numbers; Column's own methods -/
section
variable {P : Program} {w : World} {K : PySem.W.Frag} {mg : Str → Option Value} {base : Heap} {AD : Ads}
/-- v is no whole number -/
def NotInt (K : PySem.W.Frag) (H : Hp) (v : V) : Prop := ∃ t, TyX K H v t ∧ (PySem.W.kitOne K t (.type "int") = some false ∨ (PySem.W.kitOne K t (.type "int") = some true ∧ PySem.W.kitOne K t (.type "bool") = some true))
def spIsNum (K : PySem.W.Frag) : Sp := fun vs H Q _ => ∃ v, vs = [v] ∧ ((∃ i, v = .int i ∧ Q (.bl true) H) ∨ (NotInt K H v ∧ Q (.bl false) H))
theorem ok_is_number (T : Top K mg AD) : FnOk P w K mg base CX0 1 AD.f_is_number AD.d_is_number P_is_number (spIsNum K) := by
  refine T.D_is_number.F.ok sc_is_number (fun vs H Q E h => ?_) (fun cdv A outer s H vs Q E hr h => ?_)
  · obtain ⟨v, rfl, _⟩ := h
    rfl
  · obtain ⟨v, rfl, q⟩ := h
    refine ⟨_, (pss_one (ps_ret (pe_and (pe_callB (call_isiK' (K := K) rfl) (by rfl) T.b_isinstance (by decide +kernel) (pa_cons (pv 0) (pa_cons (pe_bltn (v := .ty "int") (u := .type "int") (by rfl) T.b_int (by decide +kernel) rfl) pa_nil))) (pe_one (pe_not (pe_callB (call_isiK' (K := K) rfl) (by rfl) T.b_isinstance (by decide +kernel) (pa_cons (pv 0) (pa_cons (pe_bltn (v := .ty "bool") (u := .type "bool") (by rfl) T.b_bool (by decide +kernel) rfl) pa_nil)))))))), ?_⟩
    walk_at "go"
    rcases q with ⟨i, rfl, q⟩ | ⟨⟨t, ty, h | ⟨h1, h2⟩⟩, q⟩
    · refine ⟨_, _, _, _, true, rfl, .ty _, .base (.int _), kit_ty (by decide +kernel), ?_⟩
      walk_at "go"
      refine ⟨_, _, _, _, false, rfl, .ty _, .base (.int _), kit_ty (by decide +kernel), ?_⟩
      walk_at "go"
      exact q
    · refine ⟨_, _, _, _, false, rfl, .ty _, ty, h, ?_⟩
      walk_at "go"
      exact q
    · refine ⟨_, _, _, _, true, rfl, .ty _, ty, h1, ?_⟩
      walk_at "go"
      refine ⟨_, _, _, _, true, rfl, .ty _, ty, h2, ?_⟩
      walk_at "go"
      exact q
def spIsWhole (K : PySem.W.Frag) : Sp := fun vs H Q _ => ∃ v lo hi, vs = [v, .int lo, .int hi] ∧ ((∃ i, v = .int i ∧ Q (.bl (decide (lo ≤ i ∧ i ≤ hi))) H) ∨ (NotInt K H v ∧ Q (.bl false) H))
theorem ok_is_whole (T : Top K mg AD) : FnOk P w K mg base CX0 2 AD.f_is_whole AD.d_is_whole P_is_whole (spIsWhole K) := by
  refine T.D_is_whole.F.ok sc_is_whole (fun vs H Q E h => ?_) (fun cdv A outer s H vs Q E hr h => ?_)
  · obtain ⟨v, lo, hi, rfl, _⟩ := h
    rfl
  · obtain ⟨v, lo, hi, rfl, q⟩ := h
    refine ⟨_, (pss_one (ps_ret (pe_and (callD T.D_is_number (ok_is_number T) hr (pa_cons (pv 0) pa_nil)) (pe_one (pe_chain op_le op_le (pv 1) (pv 0) (pv 2)))))), ?_⟩
    walk_at "go"
    rcases q with ⟨i, rfl, q⟩ | ⟨ni, q⟩
    · refine .inl ⟨i, rfl, ?_⟩
      walk_at "go"
      refine ite2 (fun e => ?_) (fun e => ?_)
      · have e1 := of_decide_eq_true e
        walk_at "go"
        rw [show decide (lo ≤ i ∧ i ≤ hi) = decide (i ≤ hi) by simp [e1]] at q
        exact q
      · have e1 : ¬ lo ≤ i := fun z => e (decide_eq_true z)
        walk_at "go"
        rwa [show decide (lo ≤ i ∧ i ≤ hi) = false by simp [e1]] at q
    · refine .inr ⟨ni, ?_⟩
      walk_at "go"
      exact q
theorem ColAt.mono {C x : Addr} {l : List Nat} {H H' : Hp} (h : ColAt C H x l) (k : ∀ o, H x = some o → H' x = some o) : ColAt C H' x l := let ⟨dx, e⟩ := h; ⟨dx, k _ e⟩
theorem col_ty (T : Top K mg AD) {H : Hp} {x : Addr} {l : List Nat} (h : ColAt AD.C_Column H x l) : TyX K H (.ref x) (.ref AD.C_Column) := let ⟨dx, e⟩ := h; .base (.ins e T.cl_Column T.i1_Column T.i2 T.i3 T.i4_Column)
def spColEq (C : Addr) : Sp := fun vs H Q _ => ∃ a y l, vs = [.ref a, y] ∧ ColAt C H a l ∧ ((∃ b m, y = .ref b ∧ ColAt C H b m ∧ Q (.bl (decide (l = m))) H) ∨ (∃ z, y = .str z ∧ Q (.bl false) H))
theorem ok_Column___eq__ (T : Top K mg AD) : FnOk P w K mg base CX0 1 AD.f_Column___eq__ AD.d_Column___eq__ P_Column___eq__ (spColEq AD.C_Column) := by
  refine T.D_Column___eq__.F.ok sc_Column___eq__ (fun vs H Q E h => ?_) (fun cdv A outer s H vs Q E hr h => ?_)
  · obtain ⟨a, y, l, rfl, _⟩ := h
    rfl
  · obtain ⟨a, y, l, rfl, ca, q⟩ := h
    have cl := T.cl_Column
    have nw := T.n_Column_word
    obtain ⟨dx, ea⟩ := ca
    refine ⟨_, (pss_one (ps_ret (pe_and (pe_callB (call_isiK' (K := K) rfl) (by rfl) T.b_isinstance (by decide +kernel) (pa_cons (pv 1) (pa_cons (pe_glob (v := .ref AD.C_Column) rfl T.g_Column rfl) pa_nil))) (pe_one (pe_cmpR op_eq (pe_fld (pv 0) rfl) (pe_fld (pv 1) rfl) (nomark _)))))), ?_⟩
    walk_at "go"
    rcases q with ⟨b, m, rfl, cb, q⟩ | ⟨z, rfl, q⟩
    · refine ⟨_, _, _, _, true, rfl, .own _, col_ty T cb, T.ii_Column, ?_⟩
      obtain ⟨dy, eb⟩ := cb
      walk_at "go"
      refine And.intro rfl ?_
      rwa [show decide (V.str (sOf l) = V.str (sOf m)) = decide (l = m) from decide_eq_decide.mpr str_eq]
    · refine ⟨_, _, _, _, false, rfl, .own _, .base (.str _), T.it_str_Column, ?_⟩
      walk_at "go"
      exact q
def spColStr (C : Addr) : Sp := fun vs H Q _ => ∃ a l, vs = [.ref a] ∧ ColAt C H a l ∧ Q (.str (sOf l)) H
theorem ok_Column___str__ (T : Top K mg AD) : FnOk P w K mg base CX0 1 AD.f_Column___str__ AD.d_Column___str__ P_Column___str__ (spColStr AD.C_Column) := by
  refine T.D_Column___str__.F.ok sc_Column___str__ (fun vs H Q E h => ?_) (fun cdv A outer s H vs Q E hr h => ?_)
  · obtain ⟨a, l, rfl, _⟩ := h
    rfl
  · obtain ⟨a, l, rfl, ⟨dx, ea⟩, q⟩ := h
    have cl := T.cl_Column
    have nw := T.n_Column_word
    refine ⟨_, (pss_one (ps_ret (pe_callTy SkE.call_str_str (by rfl) T.b_str (by decide +kernel) (pa_cons (pe_fld (pv 0) rfl) pa_nil)))), ?_⟩
    walk_at "go"
    exact q
theorem ok_Column___len__ (T : Top K mg AD) : FnOk P w K mg base CX0 1 AD.f_Column___len__ AD.d_Column___len__ P_Column___len__ (spLenS AD.C_Column "word") := by
  refine T.D_Column___len__.F.ok sc_Column___len__ (fun vs H Q E h => ?_) (fun cdv A outer s H vs Q E hr h => ?_)
  · obtain ⟨a, dx, fs, x, rfl, _⟩ := h
    rfl
  · obtain ⟨a, dx, fs, x, rfl, ha, hl, hz, q⟩ := h
    refine ⟨_, (pss_one (ps_ret (pe_callB call_len_str (by rfl) T.b_len (by decide +kernel) (pa_cons (pe_fld (pv 0) rfl) pa_nil)))), ?_⟩
    walk_at "go"
    refine ⟨a, _, dx, fs, _, rfl, ha, T.cl_Column, T.n_Column_word, hl, ?_⟩
    walk_at "go"
    exact ⟨szl hz, q⟩
theorem ok_Column___iter__ (T : Top K mg AD) : FnOk P w K mg base CX0 1 AD.f_Column___iter__ AD.d_Column___iter__ P_Column___iter__ (spItS AD.C_Column "word" base.objs.size) := by
  refine T.D_Column___iter__.F.ok sc_Column___iter__ (fun vs H Q E h => ?_) (fun cdv A outer s H vs Q E hr h => ?_)
  · obtain ⟨a, dx, fs, x, rfl, _⟩ := h
    rfl
  · obtain ⟨a, dx, fs, x, rfl, ha, hl, q⟩ := h
    refine ⟨_, (pss_one (ps_ret (pe_callB call_iterS (by rfl) T.b_iter (by decide +kernel) (pa_cons (pe_fld (pv 0) rfl) pa_nil)))), ?_⟩
    walk_at "go"
    refine ⟨a, _, dx, fs, _, rfl, ha, T.cl_Column, T.n_Column_word, hl, ?_⟩
    walk_at "go"
    exact fun it n1 n2 => q it n1 n2
end

/-! ### a word near a word -/
theorem split2 {l : List Nat} {j a b : Nat} (h0 : l[j]? = some a) (h1 : l[j + 1]? = some b) : l = l.take j ++ a :: b :: l.drop (j + 2) := by
  have l0 : j < l.length := (List.getElem?_eq_some_iff.mp h0).1
  have l1 : j + 1 < l.length := (List.getElem?_eq_some_iff.mp h1).1
  have a0 : l[j] = a := (List.getElem?_eq_some_iff.mp h0).2
  have a1 : l[j + 1] = b := (List.getElem?_eq_some_iff.mp h1).2
  conv => lhs; rw [← List.take_append_drop j l, List.drop_eq_getElem_cons l0, List.drop_eq_getElem_cons l1, a0, a1]
def swp (l : List Nat) (j a b : Nat) : List Nat := l.take j ++ [b] ++ [a] ++ l.drop (j + 2)
theorem swp_count {l : List Nat} {j a b : Nat} (h0 : l[j]? = some a) (h1 : l[j + 1]? = some b) (c : Nat) : (swp l j a b).count c = l.count c := by
  conv => rhs; rw [split2 h0 h1]
  unfold swp
  simp only [List.count_append, List.count_cons, List.count_nil]
  omega
theorem swp_len {l : List Nat} {j a b : Nat} (h0 : l[j]? = some a) (h1 : l[j + 1]? = some b) : (swp l j a b).length = l.length := by
  conv => rhs; rw [split2 h0 h1]
  unfold swp
  simp only [List.length_append, List.length_cons, List.length_nil]
  omega
theorem swp_ltr {l : List Nat} {j a b : Nat} (h0 : l[j]? = some a) (h1 : l[j + 1]? = some b) (al : ∀ c ∈ l, c = 100 ∨ c = 111) : ∀ c ∈ swp l j a b, c = 100 ∨ c = 111 := fun c hc => by
  have : 0 < (swp l j a b).count c := List.count_pos_iff.mpr hc
  rw [swp_count h0 h1] at this
  exact al c (List.count_pos_iff.mp this)
theorem good_of {l : List Nat} {n : Nat} (h1 : l.length = 2 * n) (h2 : l.count 100 = n) (h3 : ∀ c ∈ l, c = 100 ∨ c = 111) (h4 : ∀ k, k ≤ l.length → 0 ≤ ht l k) : Good l n := ⟨h1, h2, h3, fun k hk => by have := h4 k hk; unfold ht at this; omega⟩
section
variable {P : Program} {w : World} {K : PySem.W.Frag} {mg : Str → Option Value} {base : Heap} {AD : Ads}
def spNear : Sp := fun vs H Q _ => ∃ a l n, vs = [.ref a, .str (sOf l)] ∧ HandOk H a ∧ Good l n ∧ (1 ≤ n ∧ n ≤ 6) ∧ ∀ m H', Good m n → But a H H' → HandOk H' a → Q (.str (sOf m)) H'
theorem ok_l_near (T : Top K mg AD) : FnOk P w K mg base CX0 3 AD.f_l_near AD.d_l_near P_l_near spNear := by
  refine T.D_l_near.F.ok sc_l_near (fun vs H Q E h => ?_) (fun cdv A outer s H vs Q E hr h => ?_)
  · obtain ⟨a, l, n, rfl, _⟩ := h
    rfl
  · obtain ⟨a, l, n, rfl, hd, g, ⟨n1, n6⟩, q⟩ := h
    have gl := g.len
    refine ⟨_, (pss_cons (ps_set (i := 2) sc_l_near.nd rfl (Or.inl rfl) (pe_op op_add pe_int (callD T.D_l_draw (ok_l_draw T) hr (pa_cons (pv 0) (pa_cons (pe_op op_sub (pe_callB call_lenS (by rfl) T.b_len (by decide +kernel) (pa_cons (pv 1) pa_nil)) pe_int) pa_nil)))))
    (pss_cons (ps_if (pt_cmpR op_eq (pe_ix ix_S (pv 1) (pe_op op_sub (pv 2) pe_int) (fun _ _ => rfl)) (pe_ix ix_S (pv 1) (pv 2) (fun _ _ => rfl)) (nomark _))
    (pss_one (ps_ret (pv 1)))
    pss_nil)
    (pss_cons (ps_set (i := 3) sc_l_near.nd rfl (Or.inl rfl) (pe_op op_addS (pe_op op_addS (pe_op op_addS (pe_slice sl_S (pv 1) po_none (po_some (pe_op op_sub (pv 2) pe_int))) (pe_ix ix_S (pv 1) (pv 2) (fun _ _ => rfl))) (pe_ix ix_S (pv 1) (pe_op op_sub (pv 2) pe_int) (fun _ _ => rfl))) (pe_slice sl_S (pv 1) (po_some (pe_op op_add (pv 2) pe_int)) po_none)))
    (pss_cons (ps_set (i := 4) sc_l_near.nd rfl (Or.inl rfl) pe_int)
    (pss_cons (ps_for PassesOwn.never rfl (pi_str (pv 3)) (pg_name (i := 5) sc_l_near.nd rfl (Or.inl rfl))
    (pss_cons (ps_set (i := 4) sc_l_near.nd rfl (Or.inl rfl) (pe_op op_add (pv 4) (pe_ifExp (pt_cmpR op_eq (pv 5) (pe_s (x := Str.ofString "d") [100] (by decide +kernel)) (nomark _)) pe_int (pe_un un_neg pe_int))))
    (pss_one (ps_if (pt_cmpR op_lt (pv 4) pe_int (nomark _))
    (pss_one (ps_ret (pv 1)))
    pss_nil))))
    (pss_one (ps_ret (pv 3)))))))), ?_⟩
    walk_at "go"
    refine ⟨_, _, rfl, hd, cdivw (by omega) (by omega), fun d H1 d0 d1 b1 hd1 => ?_⟩
    obtain ⟨j, rfl⟩ := Int.eq_ofNat_of_zero_le d0
    have j1 : j + 1 < l.length := by omega
    have g0 : l[j]? = some l[j] := List.getElem?_eq_getElem (by omega)
    have g1 : l[j + 1]? = some l[j + 1] := List.getElem?_eq_getElem j1
    have e0 : atI l (1 + (j : Int) - 1) = some l[j] := by rw [show 1 + (j : Int) - 1 = (j : Int) by omega]; exact atI_nat g0
    have e1 : atI l (1 + (j : Int)) = some l[j + 1] := by rw [show 1 + (j : Int) = ((j + 1 : Nat) : Int) by omega]; exact atI_nat g1
    walk_at "go"
    refine ⟨l, _, _, rfl, rfl, by omega, e0, ?_⟩
    walk_at "go"
    refine ⟨l, _, _, rfl, rfl, by omega, e1, ?_⟩
    walk_at "go"
    refine ite2 (fun e => ?_) (fun e => ?_)
    · walk_at "go"
      exact q l _ g b1 hd1
    have c1 := cutN_len l none (some (1 + (j : Int) - 1))
    have c2 := cutN_len l (some (1 + (j : Int) + 1)) none
    walk_at "go"
    refine ⟨l, _, _, rfl, rfl, by omega, e1, ?_⟩
    walk_at "go"
    refine ⟨l, _, _, rfl, rfl, by omega, e0, ?_⟩
    walk_at "go"
    have es : cutN l none (some (1 + (j : Int) - 1)) ++ [l[j + 1]] ++ [l[j]] ++ cutN l (some (1 + (j : Int) + 1)) none = swp l j l[j] l[j + 1] := by
      unfold swp
      rw [cutN_take l (by omega), cutN_drop l (by omega), show (1 + (j : Int) - 1).toNat = j by omega, show (1 + (j : Int) + 1).toNat = j + 2 by omega]
    rw [es]
    have ml := swp_len g0 g1
    have mt := swp_ltr g0 g1 g.ltr
    have mc := swp_count g0 g1 100
    generalize swp l j l[j] l[j + 1] = m at ml mt mc ⊢
    refine for_it walk_S (fun i σ H' => ∃ o5 : Option V, σ = [some (.ref a), some (.str (sOf l)), some (.int (1 + (j : Int))), some (.str (sOf m)), some (.int (ht m i)), o5] ∧ H' = H1 ∧ ∀ k, k ≤ i → 0 ≤ ht m k)
      ⟨none, by rw [ht_zero]; rfl, rfl, fun k hk => by
        obtain rfl : k = 0 := by omega
        rw [ht_zero]
        exact Int.le_refl 0⟩ (fun _ _ _ _ _ => trivial) ?_ ?_
    · rintro i x σ H2 H3 hi ⟨o5, rfl, rfl, up⟩ ⟨rfl, c, hc, rfl⟩
      have hcl := mt c (List.mem_of_getElem? hc)
      have st := ht_step hc hcl
      have more : 0 ≤ ht m (i + 1) → ∀ k, k ≤ i + 1 → 0 ≤ ht m k := fun z k hk => by
        by_cases e : k ≤ i
        · exact up k e
        · obtain rfl : k = i + 1 := by omega
          exact z
      walk_at "go"
      refine ite2 (fun e3 => ?_) (fun e3 => ?_)
      · have ec : c = 100 := by simpa using sOf_inj.mp (V.str.inj (of_decide_eq_true e3))
        rw [if_pos ec] at st
        walk_at "go"
        refine ite2 (fun e4 => ?_) (fun e4 => ?_)
        · walk_at "go"
          exact q l _ g b1 hd1
        · have z : ¬ ht m i + 1 < 0 := fun z => e4 (decide_eq_true z)
          walk_at "go"
          exact ⟨_, by rw [← st]; rfl, rfl, more (by omega)⟩
      · have ec : ¬ c = 100 := fun z => e3 (by rw [z]; exact decide_eq_true rfl)
        rw [if_neg ec] at st
        walk_at "go"
        refine ite2 (fun e4 => ?_) (fun e4 => ?_)
        · walk_at "go"
          exact q l _ g b1 hd1
        · have z : ¬ ht m i + -1 < 0 := fun z => e4 (decide_eq_true z)
          walk_at "go"
          exact ⟨_, by rw [← st]; rfl, rfl, more (by omega)⟩
    · rintro σ H2 ⟨o5, rfl, rfl, up⟩
      walk_at "go"
      exact q m _ (good_of (by omega) (by rw [mc]; exact g.cnt) mt up) b1 hd1
end

/-! ### rows of words -/
def strsV (W : List (List Nat)) : List V := W.map fun l => V.str (sOf l)
theorem strsV_len (W : List (List Nat)) : (strsV W).length = W.length := by simp [strsV]
theorem strsV_at {W : List (List Nat)} {i : Nat} {l : List Nat} (h : W[i]? = some l) : (strsV W)[i]? = some (.str (sOf l)) := by unfold strsV; rw [List.getElem?_map, h]; rfl
/-- words of one size -/
def GoodW (W : List (List Nat)) (n : Nat) : Prop := ∀ l ∈ W, Good l n
theorem GoodW.at {W : List (List Nat)} {n i : Nat} {l : List Nat} (g : GoodW W n) (h : W[i]? = some l) : Good l n := g l (List.mem_of_getElem? h)
theorem GoodW.snoc {W : List (List Nat)} {n : Nat} {l : List Nat} (g : GoodW W n) (h : Good l n) : GoodW (W ++ [l]) n := fun m hm => by
  rcases List.mem_append.mp hm with hm | hm
  · exact g m hm
  · rw [List.mem_singleton] at hm
    rw [hm]
    exact h
theorem strsV_snoc (W : List (List Nat)) (l : List Nat) : strsV W ++ [.str (sOf l)] = strsV (W ++ [l]) := by simp [strsV]
theorem HandOk.some {H : Hp} {a : Addr} (h : HandOk H a) : ∃ o, H a = Option.some o := let ⟨_, _, _, _, _, e, _⟩ := h; ⟨_, e⟩
theorem HandOk.same {H H' : Hp} {a : Addr} (h : HandOk H a) (s : Same H H') : HandOk H' a := let ⟨l, cs, p, q, r, e, e2, z⟩ := h; ⟨l, cs, p, q, r, s _ _ e, s _ _ e2, z⟩
theorem HandOk.ne {H : Hp} {a b : Addr} (h : HandOk H a) (n : H b = none) : b ≠ a := fun z => by
  obtain ⟨o, e⟩ := h.some
  rw [← z, n] at e
  cases e
/-- another list grows: the hand stays -/
theorem HandOk.grow {H : Hp} {a b : Addr} {W : List (List Nat)} {v : V} {c : List Nat} (h : HandOk H a) (e : H b = Option.some (.lst (strsV (c :: W)))) (ne : b ≠ a) : HandOk (upd H b (.lst (strsV (c :: W) ++ [v]))) a := by
  obtain ⟨l, cells, pos, pend, tot, e1, e2, z⟩ := h
  refine ⟨l, cells, pos, pend, tot, (upd_ne (Ne.symm ne)).trans e1, ?_, z⟩
  rw [upd_ne, e2]
  intro x
  rw [x, e] at e2
  have := HO.lst.inj (Option.some.inj e2)
  cases cells with
  | nil => simp [strsV] at this
  | cons y r => simp [strsV] at this
section
variable {P : Program} {w : World} {K : PySem.W.Frag} {mg : Str → Option Value} {base : Heap} {AD : Ads}
def spWords : Sp := fun vs H Q _ => ∃ (a : Addr) (n m : Nat), vs = [.ref a, .int n, .int m] ∧ (1 ≤ n ∧ n ≤ 6) ∧ (1 ≤ m ∧ m ≤ 12) ∧ HandOk H a ∧ ∀ q W H', GoodW W n → W.length = m → But a H H' → HandOk H' a → H q = none → H' q = some (.lst (strsV W)) → Q (.ref q) H'
theorem ok_l_words (T : Top K mg AD) : FnOk P w K mg base CX0 4 AD.f_l_words AD.d_l_words P_l_words spWords := by
  refine T.D_l_words.F.ok sc_l_words (fun vs H Q E h => ?_) (fun cdv A outer s H vs Q E hr h => ?_)
  · obtain ⟨a, n, m, rfl, _⟩ := h
    rfl
  · obtain ⟨p, n, m, rfl, hn, hm, hd, q⟩ := h
    refine ⟨_, (pss_cons (ps_set (i := 3) sc_l_words.nd rfl (Or.inl rfl) (pe_lst (pa_cons (callD T.D_l_word (ok_l_word T) hr (pa_cons (pv 0) (pa_cons (pv 1) pa_nil))) pa_nil)))
    (pss_cons (ps_for PassesOwn.never rfl (pi_range2 (by rfl) T.b_range (pa_cons pe_int (pa_cons (pv 2) pa_nil))) (pg_name (i := 4) sc_l_words.nd rfl (Or.inl rfl))
    (pss_cons (ps_set (i := 5) sc_l_words.nd rfl (Or.inl rfl) (callD T.D_l_draw (ok_l_draw T) hr (pa_cons (pv 0) (pa_cons pe_int pa_nil))))
    (pss_one (ps_if (pt_cmpR op_eq (pv 5) pe_int (nomark _))
    (pss_one (ps_expr (pe_bm PySem.F.plainAttrs_list PySem.F.slot_list_append PySem.F.type_list_append mt_append (pv 3) (pa_cons (callD T.D_l_word (ok_l_word T) hr (pa_cons (pv 0) (pa_cons (pv 1) pa_nil))) pa_nil))))
    (pss_one (ps_if (pt_cmpR op_eq (pv 5) pe_int (nomark _))
    (pss_one (ps_expr (pe_bm PySem.F.plainAttrs_list PySem.F.slot_list_append PySem.F.type_list_append mt_append (pv 3) (pa_cons (pe_ix (ix_listK (K := K) rfl) (pv 3) (pe_op op_sub (pv 4) pe_int) (fun _ _ => rfl)) pa_nil))))
    (pss_one (ps_expr (pe_bm PySem.F.plainAttrs_list PySem.F.slot_list_append PySem.F.type_list_append mt_append (pv 3) (pa_cons (callD T.D_l_near (ok_l_near T) hr (pa_cons (pv 0) (pa_cons (pe_ix (ix_listK (K := K) rfl) (pv 3) (pe_op op_sub (pv 4) pe_int) (fun _ _ => rfl)) pa_nil))) pa_nil))))))))))
    (pss_one (ps_ret (pv 3))))), ?_⟩
    walk_at "go"
    refine ⟨p, n, rfl, hn, hd, fun l1 H1 g1 b1 hd1 => ?_⟩
    walk_at "go"
    refine ⟨szl (by show 1 ≤ 1000; decide), fun r nr => ?_⟩
    have rp := hd1.ne nr
    have nr0 : H r = none := by
      cases h : H r with
      | none => rfl
      | some o => rw [b1 _ _ rp h] at nr; cases nr
    have s := same_new (o := .lst [.str (sOf l1)]) (Same.refl H1) nr
    have er : upd H1 r (.lst [.str (sOf l1)]) r = some (.lst (strsV [l1])) := upd_same
    replace hd1 := hd1.same s
    replace b1 := b1.trans fun b o _ h => s b o h
    generalize upd H1 r (.lst [.str (sOf l1)]) = H2 at hd1 b1 er ⊢
    clear s nr
    walk_at "go"
    refine ⟨_, _, rfl, ⟨by omega, by omega, by omega, by omega⟩, ?_⟩
    have put : ∀ (Ha : Hp) (W : List (List Nat)) (l : List Nat) (i : Nat), GoodW W n → W.length = i + 1 → But p H Ha → HandOk Ha p → Ha r = some (.lst (strsV W)) → Good l n →
        GoodW (W ++ [l]) n ∧ (W ++ [l]).length = i + 1 + 1 ∧ But p H (upd Ha r (.lst (strsV W ++ [.str (sOf l)]))) ∧ HandOk (upd Ha r (.lst (strsV W ++ [.str (sOf l)]))) p ∧ upd Ha r (.lst (strsV W ++ [.str (sOf l)])) r = some (.lst (strsV (W ++ [l]))) := fun Ha W l i g0 e0 b0 h0 er0 gl => by
      refine ⟨g0.snoc gl, by rw [List.length_append, e0]; rfl, fun b o nb h => ?_, ?_, by rw [upd_same, strsV_snoc]⟩
      · rw [upd_ne (ne_of_none h nr0)]
        exact b0 b o nb h
      · cases W with
        | nil => simp at e0
        | cons c W => exact h0.grow er0 rp
    refine for_it (walk_range (lo := 1) (n := ((m : Int) - 1).toNat)) (fun i σ H' => ∃ (W : List (List Nat)) (o4 o5 : Option V), σ = [some (.ref p), some (.int n), some (.int m), some (.ref r), o4, o5] ∧ GoodW W n ∧ W.length = i + 1 ∧ But p H H' ∧ HandOk H' p ∧ H' r = some (.lst (strsV W)))
      ⟨[l1], none, none, rfl, fun x hx => by rw [List.mem_singleton] at hx; rw [hx]; exact g1, rfl, b1, hd1, er⟩ (fun _ _ _ _ _ => trivial) ?_ ?_
    · rintro i x σ Ha Hb hi ⟨W, o4, o5, rfl, gW, eW, B, hd, er⟩ ⟨rfl, rfl⟩
      have hi2 : i + 1 < m := by omega
      obtain ⟨l, hl⟩ : ∃ l, W[i]? = some l := ⟨_, List.getElem?_eq_getElem (by omega)⟩
      have gl := gW.at hl
      have fits : (strsV W).length < sizeLine := small1000 (by rw [strsV_len]; omega)
      walk_at "go"
      refine ⟨_, _, rfl, hd, cdivw (by decide) (by decide), fun d H3 d0 d1 b3 hd3 => ?_⟩
      replace B := B.trans b3
      replace er := b3 _ _ rp er
      clear b3 hd
      walk_at "go"
      refine ite2 (fun e => ?_) (fun e => ?_)
      · walk_at "go"
        refine ⟨p, n, rfl, hn, hd3, fun l2 H4 g2 b4 hd4 => ?_⟩
        replace B := B.trans b4
        replace er := b4 _ _ rp er
        obtain ⟨a1, a2, a3, a4, a5⟩ := put H4 W l2 i gW eW B hd4 er g2
        walk_at "go"
        refine ⟨r, _, _, rfl, rfl, er, fits, ?_⟩
        exact ⟨_, _, _, rfl, a1, a2, a3, a4, a5⟩
      · walk_at "go"
        refine ite2 (fun e2 => ?_) (fun e2 => ?_)
        · obtain ⟨a1, a2, a3, a4, a5⟩ := put H3 W l i gW eW B hd3 er gl
          walk_at "go"
          refine ⟨r, _, _, _, rfl, rfl, SqL.of er, by rw [show (1 : Int) + (i : Int) - 1 = (i : Nat) by omega]; exact atI_nat (strsV_at hl), ?_⟩
          walk_at "go"
          refine ⟨r, _, _, rfl, rfl, er, fits, ?_⟩
          exact ⟨_, _, _, rfl, a1, a2, a3, a4, a5⟩
        · walk_at "go"
          refine ⟨r, _, _, _, rfl, rfl, SqL.of er, by rw [show (1 : Int) + (i : Int) - 1 = (i : Nat) by omega]; exact atI_nat (strsV_at hl), ?_⟩
          walk_at "go"
          refine ⟨p, l, n, rfl, hd3, gl, hn, fun l2 H4 g2 b4 hd4 => ?_⟩
          replace B := B.trans b4
          replace er := b4 _ _ rp er
          obtain ⟨a1, a2, a3, a4, a5⟩ := put H4 W l2 i gW eW B hd4 er g2
          walk_at "go"
          refine ⟨r, _, _, rfl, rfl, er, fits, ?_⟩
          exact ⟨_, _, _, rfl, a1, a2, a3, a4, a5⟩
    · rintro σ Ha ⟨W, o4, o5, rfl, gW, eW, B, hd, er⟩
      walk_at "go"
      exact q r W Ha gW (by omega) B hd nr0 er
end

/-! ### heights, one by one; lists or tuples -/
theorem good_up {l : List Nat} {n : Nat} (g : Good l n) {k : Nat} (hk : k ≤ l.length) : 0 ≤ ht l k := by
  have := g.ahead k hk
  unfold ht
  omega
theorem good_end {l : List Nat} {n : Nat} (g : Good l n) : ht l l.length = 0 := by
  have h1 := ltr_count g.ltr
  have h2 := g.len
  have h3 := g.cnt
  unfold ht
  rw [List.take_length]
  omega
theorem good_step {l : List Nat} {n : Nat} (g : Good l n) {k : Nat} (hk : k < l.length) : ht l (k + 1) - ht l k = 1 ∨ ht l (k + 1) - ht l k = -1 := by
  have hc : l[k]? = some l[k] := List.getElem?_eq_getElem hk
  have := ht_step hc (g.ltr _ (List.getElem_mem hk))
  split at this <;> omega
theorem vI_get {l : List Nat} {m i : Nat} (hi : i < m + 1) : (vI (htsI l m))[i]? = some (.int (ht l i)) := by
  unfold vI htsI
  simp [hi]
theorem vI_len (l : List Nat) (m : Nat) : (vI (htsI l m)).length = m + 1 := by
  unfold vI
  rw [List.length_map, htsI_len]
section
variable {P : Program} {w : World} {K : PySem.W.Frag} {mg : Str → Option Value} {base : Heap} {AD : Ads}
/-- a list or tuple -/
def Seq2 (K : PySem.W.Frag) (H : Hp) (p : Addr) (xs : List V) : Prop := H p = some (.lst xs) ∨ H p = some (.tup xs)
theorem Seq2.q {H : Hp} {p : Addr} {xs : List V} (s : Seq2 K H p xs) : SqL K H p xs ∨ SqT K H p xs := s.elim (fun e => .inl (SqL.of e)) (fun e => .inr (SqT.of e))
theorem ixQ_of {H : Hp} {p : Addr} {xs : List V} {i : Int} {v : V} {Q : VK} (s : Seq2 K H p xs) (ha : atI xs i = some v) (q : Q v H) : rIxQ K (.ref p) (.int i) H Q :=
  s.elim (fun e => .inl ⟨p, xs, i, v, rfl, rfl, SqL.of e, ha, q⟩) (fun e => .inr ⟨p, xs, i, v, rfl, rfl, SqT.of e, ha, q⟩)
theorem Seq2.mono {H H' : Hp} {p : Addr} {xs : List V} (s : Seq2 K H p xs) (m : Same H H') : Seq2 K H' p xs := s.elim (fun e => .inl (m _ _ e)) (fun e => .inr (m _ _ e))
def spIsSeq (K : PySem.W.Frag) : Sp := fun vs H Q _ => ∃ p xs, vs = [.ref p] ∧ Seq2 K H p xs ∧ ∀ H', Same H H' → Q (.bl true) H'
theorem ok_is_sequence (T : Top K mg AD) : FnOk P w K mg base CX0 1 AD.f_is_sequence AD.d_is_sequence P_is_sequence (spIsSeq K) := by
  refine T.D_is_sequence.F.ok sc_is_sequence (fun vs H Q E h => ?_) (fun cdv A outer s H vs Q E hr h => ?_)
  · obtain ⟨v, xs, rfl, _⟩ := h
    rfl
  · obtain ⟨p, xs, rfl, sq, q⟩ := h
    refine ⟨_, (pss_one (ps_ret (pe_callB (call_isiTK (K := K) rfl) (by rfl) T.b_isinstance (by decide +kernel) (pa_cons (pv 0) (pa_cons (pe_tup (pa_cons (pe_bltn (v := .ty "list") (u := .type "list") (by rfl) T.b_list (by decide +kernel) rfl) (pa_cons (pe_bltn (v := .ty "tuple") (u := .type "tuple") (by rfl) T.b_tuple (by decide +kernel) rfl) pa_nil))) pa_nil))))), ?_⟩
    walk_at "go"
    refine ⟨szl (by show 2 ≤ 1000; decide), fun tp htp => ?_⟩
    walk_at "go"
    have s1 := same_new (o := .tup [.ty "list", .ty "tuple"]) (Same.refl H) htp
    rcases sq with e | e
    · exact ⟨_, tp, _, _, _, true, rfl, upd_same, .cons (.ty _) (.cons (.ty _) .nil), .base (.lst (s1 _ _ e)), any_hd (kit_ty (by decide +kernel)), q _ s1⟩
    · exact ⟨_, tp, _, _, _, true, rfl, upd_same, .cons (.ty _) (.cons (.ty _) .nil), .base (.tup (s1 _ _ e)), any_tl (kit_ty (by decide +kernel)) (any_hd (kit_ty (by decide +kernel))), q _ s1⟩
end

/-! ### columns and marks of a card: the good ones -/
theorem not_same {α : Type} {a : α} [Decidable (a = a)] : (!decide (a = a)) = false := by simp
theorem is_same {α : Type} {a : α} [Decidable (a = a)] : decide (a = a) = true := by simp
/-- columns of the words W stand at ys -/
inductive ColsAt (C : Addr) (H : Hp) : List Addr → List (List Nat) → Prop where
  | nil : ColsAt C H [] []
  | cons {y : Addr} {l : List Nat} {ys : List Addr} {W : List (List Nat)} (h : ColAt C H y l) (r : ColsAt C H ys W) : ColsAt C H (y :: ys) (l :: W)
theorem ColsAt.mono {C : Addr} {H H' : Hp} (s : Same H H') : ∀ {ys W}, ColsAt C H ys W → ColsAt C H' ys W
  | _, _, .nil => .nil
  | _, _, .cons h r => .cons (h.mono (s _)) (r.mono s)
theorem ColsAt.len {C : Addr} {H : Hp} : ∀ {ys W}, ColsAt C H ys W → ys.length = W.length
  | _, _, .nil => rfl
  | _, _, .cons _ r => congrArg Nat.succ r.len
theorem ColsAt.snoc {C : Addr} {H : Hp} {y : Addr} {l : List Nat} (h : ColAt C H y l) : ∀ {ys W}, ColsAt C H ys W → ColsAt C H (ys ++ [y]) (W ++ [l])
  | _, _, .nil => .cons h .nil
  | _, _, .cons h2 r => .cons h2 (r.snoc h)
theorem ColsAt.at {C : Addr} {H : Hp} : ∀ {ys W} {i : Nat} {l : List Nat}, ColsAt C H ys W → W[i]? = some l → ∃ y, ys[i]? = some y ∧ ColAt C H y l
  | _, _, _, _, .nil, e => by simp at e
  | _, _, 0, _, .cons (y := y) h _, e => ⟨y, rfl, by simp at e; rw [← e]; exact h⟩
  | _, _, i + 1, _, .cons _ r, e => by
    obtain ⟨y, a, b⟩ := r.at (i := i) (by simpa using e)
    exact ⟨y, by simpa using a, b⟩
theorem ColsAt.at2 {C : Addr} {H : Hp} : ∀ {ys W} {i : Nat} {y : Addr}, ColsAt C H ys W → ys[i]? = some y → ∃ l, W[i]? = some l ∧ ColAt C H y l
  | _, _, _, _, .nil, e => by simp at e
  | _, _, 0, _, .cons (l := l) h _, e => ⟨l, rfl, by simp at e; rw [← e]; exact h⟩
  | _, _, i + 1, _, .cons _ r, e => by
    obtain ⟨l, a, b⟩ := r.at2 (i := i) (by simpa using e)
    exact ⟨l, by simpa using a, b⟩
def refsV (ys : List Addr) : List V := ys.map V.ref
theorem refsV_len (ys : List Addr) : (refsV ys).length = ys.length := by simp [refsV]
theorem refsV_at {ys : List Addr} {i : Nat} {y : Addr} (h : ys[i]? = some y) : (refsV ys)[i]? = some (.ref y) := by unfold refsV; rw [List.getElem?_map, h]; rfl
theorem refsV_un {ys : List Addr} {i : Nat} {x : V} (h : (refsV ys)[i]? = some x) : ∃ y, ys[i]? = some y ∧ x = .ref y := by
  unfold refsV at h
  rw [List.getElem?_map] at h
  cases e : ys[i]? with
  | none => rw [e] at h; cases h
  | some y => rw [e] at h; exact ⟨y, rfl, (Option.some.inj h).symm⟩
/-- marks that may stand on w columns of size n -/
structure OkM (M : List (Nat × Nat)) (w n : Nat) : Prop where
  nd : M.Nodup
  ok : ∀ m ∈ M, m.1 + 2 ≤ w ∧ 1 ≤ m.2 ∧ m.2 + 2 ≤ 2 * n
  few : M.length ≤ 20
section
variable {P : Program} {w : World} {K : PySem.W.Frag} {mg : Str → Option Value} {base : Heap} {AD : Ads}
theorem ok_BadCard___init__ (T : Top K mg AD) : FnOk P w K mg base CX0 1 AD.f_BadCard___init__ AD.d_BadCard___init__ P_BadCard___init__ (spE2 K "index" "what") := by
  refine T.D_BadCard___init__.F.ok sc_BadCard___init__ (fun vs H Q E h => ?_) (fun cdv A outer s H vs Q E hr h => ?_)
  · obtain ⟨a, C, v, u, rfl, _⟩ := h
    rfl
  · obtain ⟨a, C, v, u, rfl, ho, hf, hg, ha, q⟩ := h
    refine ⟨_, (pss_cons (ps_ost (pv 0) (pv 1))
    (pss_one (ps_ost (pv 0) (pv 2)))), ?_⟩
    walk_at "go"
    refine ⟨a, C, rfl, ho, hf, .inl ⟨ha, fun dx n ne => ?_⟩⟩
    walk_at "go"
    refine ⟨a, C, rfl, ho, hg, .inr ⟨dx, _, upd_same, (upd_ne ne).trans upd_same, by show 1 ≤ 900; decide, q dx n ne⟩⟩
def spCheckCols (AD : Ads) : Sp := fun vs H Q _ => ∃ p ys W n, vs = [.ref p] ∧ H p = some (.lst (refsV ys)) ∧ ColsAt AD.C_Column H ys W ∧ GoodW W n ∧ (1 ≤ W.length ∧ W.length ≤ 12) ∧ ∀ H', Same H H' → Q .non H'
theorem ok_check_columns (T : Top K mg AD) : FnOk P w K mg base (L2.CX P w) 3 AD.f_check_columns AD.d_check_columns P_check_columns (spCheckCols AD) := by
  refine T.D_check_columns.F.okX sc_check_columns (fun vs H Q E h => ?_) (fun cdv A outer s H vs Q E hr h => ?_)
  · obtain ⟨p, ys, W, n, rfl, _⟩ := h
    rfl
  · obtain ⟨p, ys, W, n, rfl, ep, cs, gW, ⟨w1, w12⟩, q⟩ := h
    have cl := T.cl_Column
    have nz := T.n_Column_size
    obtain ⟨tm, hc_MOST_WIDTH⟩ := T.c_MOST_WIDTH
    have yl := cs.len
    refine ⟨_, (pss_cons (ps_if (PW.pt (pw_or (pt_not (pt_val (callD T.D_is_sequence (ok_is_sequence T) hr (pa_cons (pv 0) pa_nil)))) (pw_or1 (pt_not (pt_chain op_le op_le pe_int (pe_callB (call_lenQ (K := K) rfl) (by rfl) T.b_len (by decide +kernel) (pa_cons (pv 0) pa_nil)) (pe_glob (v := .int 12) rfl hc_MOST_WIDTH ⟨_, rfl⟩))))))
    (pss_one (ps_raise rfl (takes_of rfl rfl rfl rfl) (pmk_oex T.x_BadCard.oex T.x_BadCard.ini T.x_BadCard.tI (ok_BadCard___init__ T) (hr.mono (by decide)) T.D_BadCard___init__.b .nil pass0 (by rfl) T.x_BadCard.g (pa_cons pe_int (pa_cons (pe_s (x := Str.ofString "columns") [99, 111, 108, 117, 109, 110, 115] (by decide +kernel)) pa_nil)))))
    pss_nil)
    (pss_cons (ps_for (passes_of rfl) rfl (pi_enumQ (K := K) (by rfl) (by rfl) T.b_enumerate (pa_cons (pv 0) pa_nil)) (pg_tup (by rfl) (pgs_cons (pg_name (i := 1) sc_check_columns.nd rfl (Or.inl rfl)) (pgs_cons (pg_name (i := 2) sc_check_columns.nd rfl (Or.inl rfl)) pgs_nil)))
    (pss_one (ps_if (pt_not (pt_val (pe_callB (call_isiK' (K := K) rfl) (by rfl) T.b_isinstance (by decide +kernel) (pa_cons (pv 2) (pa_cons (pe_glob (v := .ref AD.C_Column) rfl T.g_Column rfl) pa_nil)))))
    (pss_one (ps_raise rfl (takes_of rfl rfl rfl rfl) (pmk_oex T.x_BadCard.oex T.x_BadCard.ini T.x_BadCard.tI (ok_BadCard___init__ T) (hr.mono (by decide)) T.D_BadCard___init__.b .nil pass0 (by rfl) T.x_BadCard.g (pa_cons (pv 1) (pa_cons (pe_s (x := Str.ofString "column") [99, 111, 108, 117, 109, 110] (by decide +kernel)) pa_nil)))))
    pss_nil)))
    (pss_one (ps_for (passes_of rfl) rfl (pi_enumQ (K := K) (by rfl) (by rfl) T.b_enumerate (pa_cons (pv 0) pa_nil)) (pg_tup (by rfl) (pgs_cons (pg_name (i := 1) sc_check_columns.nd rfl (Or.inl rfl)) (pgs_cons (pg_name (i := 2) sc_check_columns.nd rfl (Or.inl rfl)) pgs_nil)))
    (pss_one (ps_if (pt_cmpR op_ne (pe_fld (pv 2) rfl) (pe_fld (pe_ix (ix_Q (K := K) rfl) (pv 0) pe_int (fun _ _ => rfl)) rfl) (nomark _))
    (pss_one (ps_raise rfl (takes_of rfl rfl rfl rfl) (pmk_oex T.x_BadCard.oex T.x_BadCard.ini T.x_BadCard.tI (ok_BadCard___init__ T) (hr.mono (by decide)) T.D_BadCard___init__.b .nil pass0 (by rfl) T.x_BadCard.g (pa_cons (pv 1) (pa_cons (pe_s (x := Str.ofString "size") [115, 105, 122, 101] (by decide +kernel)) pa_nil)))))
    pss_nil)))))), ?_⟩
    walk_at "go"
    refine ⟨p, _, rfl, .inl ep, fun H1 s1 => ?_⟩
    have sq : Seq2 K H1 p (refsV ys) := .inl (s1 _ _ ep)
    have ek : H1 p = some (.lst (refsV ys)) ∧ True := ⟨s1 _ _ ep, trivial⟩
    clear ep
    replace cs := cs.mono s1
    walk_at "go"
    refine ⟨p, _, rfl, sq.q, ?_⟩
    rw [refsV_len]
    walk_at "go"
    rw [if_pos (decide_eq_true (by omega))]
    walk_at "go"
    refine ite2 (fun e => ?_) (fun e => ?_)
    · exfalso
      have e2 : ¬ ((ys.length : Nat) : Int) ≤ 12 := by simpa using e
      omega
    obtain ⟨ep, -⟩ := ek
    obtain ⟨l0, hl0⟩ : ∃ l0, W[0]? = some l0 := ⟨_, List.getElem?_eq_getElem (by omega)⟩
    obtain ⟨y0, hy0, c0⟩ := cs.at hl0
    have sz : ∀ l, Good l n → (l.count 100 : Nat) = n := fun l g => g.cnt
    walk_at "go"
    refine ⟨p, _, rfl, .inl ⟨SqL.of ep, for_it walk_enum (fun i σ H' => ∃ (o1 o2 : Option V), σ = [some (.ref p), o1, o2] ∧ Same H1 H') ⟨none, none, rfl, Same.refl H1⟩ (fun i σ H' _ h => by obtain ⟨_, _, _, s⟩ := h; exact SqL.of (s _ _ ep)) ?_ ?_⟩⟩
    · rintro i x σ H2 H3 hi ⟨o1, o2, rfl, s2⟩ ⟨T', a, b, rfl, nT, rfl, ea, eb⟩
      cases ea
      obtain ⟨y, hy, rfl⟩ := refsV_un eb
      obtain ⟨l, hl, cy⟩ := cs.at2 hy
      have s3 := same_new (o := .tup [.int (i : Nat), .ref y]) s2 nT
      refine ⟨T', _, rfl, SqT.of upd_same, rfl, _, _, rfl, _, _, rfl, rfl, ?_⟩
      generalize upd H2 T' (.tup [.int (i : Nat), .ref y]) = H4 at s3 ⊢
      walk_at "go"
      refine ⟨_, _, _, _, true, rfl, .own _, col_ty T (cy.mono (s3 y)), T.ii_Column, ?_⟩
      walk_at "go"
      exact ⟨_, _, rfl, s3⟩
    rintro σ H2 ⟨o1, o2, rfl, s2⟩
    replace s1 := s1.trans s2
    replace ep := s2 _ _ ep
    replace cs := cs.mono s2
    replace c0 := c0.mono (s2 y0)
    walk_at "go"
    refine ⟨p, _, rfl, .inl ⟨SqL.of ep, for_it walk_enum (fun i σ H' => ∃ (o1 o2 : Option V), σ = [some (.ref p), o1, o2] ∧ Same H2 H') ⟨_, _, rfl, Same.refl H2⟩ (fun i σ H' _ h => by obtain ⟨_, _, _, s⟩ := h; exact SqL.of (s _ _ ep)) ?_ ?_⟩⟩
    · rintro i x σ H3 H4 hi ⟨o1, o2, rfl, s3⟩ ⟨T', a, b, rfl, nT, rfl, ea, eb⟩
      cases ea
      obtain ⟨y, hy, rfl⟩ := refsV_un eb
      obtain ⟨l, hl, cy⟩ := cs.at2 hy
      have s4 := same_new (o := .tup [.int (i : Nat), .ref y]) s3 nT
      refine ⟨T', _, rfl, SqT.of upd_same, rfl, _, _, rfl, _, _, rfl, rfl, ?_⟩
      generalize upd H3 T' (.tup [.int (i : Nat), .ref y]) = H5 at s4 ⊢
      obtain ⟨dy, ey⟩ := cy.mono (s4 y)
      obtain ⟨d0, e0⟩ := c0.mono (s4 y0)
      have ep5 : Seq2 K H5 p (refsV ys) := .inl (s4 _ _ ep)
      walk_at "go"
      refine ixQ_of (i := 0) ep5 (atI_nat (j := 0) (refsV_at hy0)) ?_
      walk_at "go"
      rw [sz l (gW.at hl), sz l0 (gW.at hl0), not_same]
      walk_at "go"
      exact ⟨_, _, rfl, s4⟩
    · rintro σ H3 ⟨o1, o2, rfl, s3⟩
      walk_at "go"
      exact q H3 (s1.trans s3)
end

/-! ### marks -/
theorem nodup_at {α : Type} {m : α} : ∀ {M : List α} {i j : Nat}, M.Nodup → M[i]? = some m → M[j]? = some m → i = j
  | [], _, _, _, h, _ => by simp at h
  | x :: r, 0, 0, _, _, _ => rfl
  | x :: r, 0, j + 1, nd, h, k => by
    have e : x = m := by simpa using h
    exact absurd (List.mem_of_getElem? (by simpa using k : r[j]? = some m)) (by rw [← e]; exact (List.nodup_cons.mp nd).1)
  | x :: r, i + 1, 0, nd, h, k => by
    have e : x = m := by simpa using k
    exact absurd (List.mem_of_getElem? (by simpa using h : r[i]? = some m)) (by rw [← e]; exact (List.nodup_cons.mp nd).1)
  | x :: r, i + 1, j + 1, nd, h, k => congrArg Nat.succ (nodup_at (List.nodup_cons.mp nd).2 (by simpa using h) (by simpa using k))
section
variable {P : Program} {w : World} {K : PySem.W.Frag} {mg : Str → Option Value} {base : Heap} {AD : Ads}
def spMarkOf : Sp := fun vs H Q _ => ∃ T m, ∃ n wd : Nat, vs = [.ref T, .int n, .int wd] ∧ H T = some (mT m) ∧ (m.1 + 2 ≤ wd ∧ 1 ≤ m.2 ∧ m.2 + 2 ≤ 2 * n) ∧ ∀ p H', Same H H' → H p = none → H' p = some (mT m) → Q (.ref p) H'
theorem ok_mark_of (T : Top K mg AD) : FnOk P w K mg base CX0 3 AD.f_mark_of AD.d_mark_of P_mark_of spMarkOf := by
  refine T.D_mark_of.F.ok sc_mark_of (fun vs H Q E h => ?_) (fun cdv A outer s H vs Q E hr h => ?_)
  · obtain ⟨t, m, n, wd, rfl, _⟩ := h
    rfl
  · obtain ⟨t, m, n, wd, rfl, et, ⟨h1, h2, h3⟩, q⟩ := h
    refine ⟨_, (pss_cons (ps_if (PW.pt (pw_or (pt_not (pt_val (callD T.D_is_sequence (ok_is_sequence T) hr (pa_cons (pv 0) pa_nil)))) (pw_or1 (pt_cmpR op_ne (pe_callB (call_lenQ (K := K) rfl) (by rfl) T.b_len (by decide +kernel) (pa_cons (pv 0) pa_nil)) pe_int (nomark _)))))
    (pss_one (ps_ret pe_non))
    pss_nil)
    (pss_cons (ps_asg (pv 0) (pg_tup (by rfl) (pgs_cons (pg_name (i := 3) sc_mark_of.nd rfl (Or.inl rfl)) (pgs_cons (pg_name (i := 4) sc_mark_of.nd rfl (Or.inl rfl)) pgs_nil))))
    (pss_cons (ps_if (PW.pt (pw_and (pt_val (callD T.D_is_whole (ok_is_whole T) hr (pa_cons (pv 3) (pa_cons pe_int (pa_cons (pe_op op_sub (pv 2) pe_int) pa_nil))))) (pw_and1 (pt_val (callD T.D_is_whole (ok_is_whole T) hr (pa_cons (pv 4) (pa_cons pe_int (pa_cons (pe_op op_sub (pe_op op_mul pe_int (pv 1)) pe_int) pa_nil))))))))
    (pss_one (ps_ret (pe_tup (pa_cons (pv 3) (pa_cons (pv 4) pa_nil)))))
    pss_nil)
    (pss_one (ps_ret pe_non))))), ?_⟩
    walk_at "go"
    refine ⟨t, _, rfl, .inr et, fun H1 s1 => ?_⟩
    have et1 : H1 t = some (.tup [.int (m.1 : Nat), .int (m.2 : Nat)]) := s1 _ _ et
    walk_at "go"
    refine ⟨t, _, rfl, .inr (SqT.of et1), ?_⟩
    walk_at "go"
    refine ⟨t, _, rfl, SqT.of et1, rfl, _, _, rfl, _, _, rfl, rfl, ?_⟩
    walk_at "go"
    refine ⟨_, _, _, rfl, .inl ⟨_, rfl, ?_⟩⟩
    rw [decide_eq_true (show (0 : Int) ≤ (m.1 : Nat) ∧ ((m.1 : Nat) : Int) ≤ (wd : Nat) - 2 from ⟨by omega, by omega⟩)]
    walk_at "go"
    refine ⟨_, _, _, rfl, .inl ⟨_, rfl, ?_⟩⟩
    rw [decide_eq_true (show (1 : Int) ≤ (m.2 : Nat) ∧ ((m.2 : Nat) : Int) ≤ 2 * (n : Nat) - 2 from ⟨by omega, by omega⟩)]
    walk_at "go"
    refine ⟨szl (by show 2 ≤ 1000; decide), fun p np => ?_⟩
    exact q p _ (s1.trans (same_new (Same.refl H1) np)) (s1.free np) upd_same
def spNewMarks : Sp := fun vs H Q _ => ∃ ml xs M tk, ∃ n wd : Nat, vs = [.ref ml, .int n, .int wd, .ref tk] ∧ H ml = some (.lst xs) ∧ Prs H xs M ∧ OkM M wd n ∧ H tk = some (.tup []) ∧ ∀ f zs H', Same H H' → H f = none → H' f = some (.lst zs) → Prs H' zs M → Q (.ref f) H'
theorem ok_new_marks (T : Top K mg AD) : FnOk P w K mg base (L2.CX P w) 4 AD.f_new_marks AD.d_new_marks P_new_marks spNewMarks := by
  refine T.D_new_marks.F.okX sc_new_marks (fun vs H Q E h => ?_) (fun cdv A outer s H vs Q E hr h => ?_)
  · obtain ⟨ml, xs, M, tk, n, wd, rfl, _⟩ := h
    rfl
  · obtain ⟨ml, xs, M, tk, n, wd, rfl, em, hM, ok, et, q⟩ := h
    have xl := hM.len
    have few := ok.few
    refine ⟨_, (pss_cons (ps_if (pt_not (pt_val (callD T.D_is_sequence (ok_is_sequence T) hr (pa_cons (pv 0) pa_nil))))
    (pss_one (ps_raise rfl (takes_of rfl rfl rfl rfl) (pmk_oex T.x_BadCard.oex T.x_BadCard.ini T.x_BadCard.tI (ok_BadCard___init__ T) (hr.mono (by decide)) T.D_BadCard___init__.b .nil pass0 (by rfl) T.x_BadCard.g (pa_cons pe_int (pa_cons (pe_s (x := Str.ofString "marks") [109, 97, 114, 107, 115] (by decide +kernel)) pa_nil)))))
    pss_nil)
    (pss_cons (ps_set (i := 4) sc_new_marks.nd rfl (Or.inl rfl) (pe_lst pa_nil))
    (pss_cons (ps_for (passes_of rfl) rfl (pi_enumQ (K := K) (by rfl) (by rfl) T.b_enumerate (pa_cons (pv 0) pa_nil)) (pg_tup (by rfl) (pgs_cons (pg_name (i := 5) sc_new_marks.nd rfl (Or.inl rfl)) (pgs_cons (pg_name (i := 6) sc_new_marks.nd rfl (Or.inl rfl)) pgs_nil)))
    (pss_cons (ps_set (i := 7) sc_new_marks.nd rfl (Or.inl rfl) (callD T.D_mark_of (ok_mark_of T) hr (pa_cons (pv 6) (pa_cons (pv 1) (pa_cons (pv 2) pa_nil)))))
    (pss_cons (ps_if (pt_cmpR op_isN (pv 7) pe_non (nomark _))
    (pss_one (ps_raise rfl (takes_of rfl rfl rfl rfl) (pmk_oex T.x_BadCard.oex T.x_BadCard.ini T.x_BadCard.tI (ok_BadCard___init__ T) (hr.mono (by decide)) T.D_BadCard___init__.b .nil pass0 (by rfl) T.x_BadCard.g (pa_cons (pv 5) (pa_cons (pe_s (x := Str.ofString "mark") [109, 97, 114, 107] (by decide +kernel)) pa_nil)))))
    pss_nil)
    (pss_cons (ps_if (PW.pt (pw_or (pt_cmpR (op_inDT (K := K) rfl (Sl.Room.units65 hr)) (pv 7) (pv 3) (by rfl)) (pw_or1 (pt_cmpR (op_inDK (K := K) rfl (Sl.Room.units65 hr)) (pv 7) (pv 4) (by rfl)))))
    (pss_one (ps_raise rfl (takes_of rfl rfl rfl rfl) (pmk_oex T.x_BadCard.oex T.x_BadCard.ini T.x_BadCard.tI (ok_BadCard___init__ T) (hr.mono (by decide)) T.D_BadCard___init__.b .nil pass0 (by rfl) T.x_BadCard.g (pa_cons (pv 5) (pa_cons (pe_s (x := Str.ofString "double") [100, 111, 117, 98, 108, 101] (by decide +kernel)) pa_nil)))))
    pss_nil)
    (pss_one (ps_expr (pe_bm PySem.F.plainAttrs_list PySem.F.slot_list_append PySem.F.type_list_append mt_append (pv 4) (pa_cons (pv 7) pa_nil))))))))
    (pss_one (ps_ret (pv 4)))))), ?_⟩
    walk_at "go"
    refine ⟨ml, _, rfl, .inl em, fun H1 s1 => ?_⟩
    replace em := s1 _ _ em
    replace et := s1 _ _ et
    replace hM := hM.mono s1
    walk_at "go"
    intro f nf
    have ef : upd H1 f (.lst []) f = some (.lst []) := upd_same
    have b0 : But f H1 (upd H1 f (.lst [])) := But.upd (But.refl _ _)
    generalize upd H1 f (.lst []) = H2 at ef b0 ⊢
    have em2 := same_but (Same.refl _) nf b0 _ _ em
    walk_at "go"
    refine ⟨ml, _, rfl, .inl ⟨SqL.of em2, for_it walk_enum (fun i σ H' => ∃ (zs : List V) (o5 o6 o7 : Option V), σ = [some (.ref ml), some (.int n), some (.int wd), some (.ref tk), some (.ref f), o5, o6, o7] ∧ But f H1 H' ∧ H' f = some (.lst zs) ∧ Prs H' zs (M.take i))
      ⟨[], none, none, none, rfl, b0, ef, by rw [List.take_zero]; exact .nil⟩ (fun i σ H' _ h => by obtain ⟨_, _, _, _, _, b, _⟩ := h; exact SqL.of (same_but (Same.refl _) nf b _ _ em)) ?_ ?_⟩⟩
    · rintro i x σ H3 H4 hi ⟨zs, o5, o6, o7, rfl, b3, ef3, hz⟩ ⟨T', a, b, rfl, nT, rfl, ea, eb⟩
      cases ea
      obtain ⟨Tm, m, rfl, hm, eT⟩ := hM.at eb
      have mok := ok.ok m (List.mem_of_getElem? hm)
      have zl := hz.len
      have tl := List.length_take_le i M
      have nTf : T' ≠ f := fun z => by rw [z, ef3] at nT; cases nT
      have s4 := same_new (o := .tup [.int (i : Nat), .ref Tm]) (Same.refl H3) nT
      have b4 : But f H1 (upd H3 T' (.tup [.int (i : Nat), .ref Tm])) := fun b o nb h => s4 b o (b3 b o nb h)
      replace ef3 := s4 _ _ ef3
      replace hz := hz.mono s4
      refine ⟨T', _, rfl, SqT.of upd_same, rfl, _, _, rfl, _, _, rfl, rfl, ?_⟩
      generalize upd H3 T' (.tup [.int (i : Nat), .ref Tm]) = H5 at b4 ef3 hz ⊢
      walk_at "go"
      refine ⟨Tm, m, n, wd, rfl, b4 _ _ (fun z => by rw [z, nf] at eT; cases eT) eT, mok, fun p1 H6 s6 np1 e1 => ?_⟩
      have b6 : But f H1 H6 := fun b o nb h => s6 b o (b4 b o nb h)
      replace ef3 := s6 _ _ ef3
      replace hz := hz.mono s6
      have d1 : Dp K H6 (.ref p1) (mD m) := .tup (SqT.of e1) (.cons (.int _) (.cons (.int _) .nil))
      have et6 := same_but (Same.refl _) nf b6 _ _ et
      walk_at "go"
      refine inP d1 et6 .nil ?_
      walk_at "go"
      refine inL d1 ef3 hz ?_
      have nin : m ∉ M.take i := fun z => by
        obtain ⟨j, hj, ej⟩ := List.getElem_of_mem z
        rw [List.length_take] at hj
        rw [List.getElem_take] at ej
        have := nodup_at (i := j) (j := i) ok.nd (by rw [← ej]; exact List.getElem?_eq_getElem (by omega)) hm
        omega
      rw [show decide (m ∈ M.take i) = false from decide_eq_false nin]
      walk_at "go"
      refine ⟨f, _, _, rfl, rfl, ef3, small1000 (by omega), ?_⟩
      refine ⟨_, _, _, _, rfl, But.upd b6, upd_same, ?_⟩
      rw [List.take_add_one, hm]
      have p1f : p1 ≠ f := fun z => by rw [z, ef3] at e1; cases e1
      refine Prs.snoc ((upd_ne p1f).trans e1) ?_
      exact hz.keep (o := .lst []) (fun m2 z => by rw [ef3] at z; cases z) (fun c o nc h => (upd_ne nc).trans h)
    · rintro σ H3 ⟨zs, o5, o6, o7, rfl, b3, ef3, hz⟩
      rw [xl, List.take_length] at hz
      walk_at "go"
      exact q f zs H3 (s1.trans (same_but (Same.refl _) nf b3)) (s1.free nf) ef3 hz
end

/-! ### Card, made of good columns and marks -/
theorem callU {X : Cx} {x : Str} {st : Stmt} {ps : List Str} {f : Addr} {fd : FuncData} {sp : Sp} {k j : Nat} {e : Expr} {es : List Expr} {p pos : Pos} {t : TA} {E : XK} (D : DefAt X.K X.mg x st ps f fd) (G : FnOk X.prog X.w X.K X.mg X.base (L2.CX X.prog X.w) k f fd ps sp) (hr : Room j X.A)
    (tk : Takes X fun cls d _ H => E cls d H) (ha : PA X (e :: es) t) (hk : k ≤ j := by decide) (hg : Gl X x := by rfl) (hdb : (x == ("__debug__" : Str)) = false := by decide)
    (he : starEach (e :: es) X.env = (false, eval e X.env) :: starEach es X.env := by rfl) (hpl : (backTo pos (starEach es X.env)).any (·.1) = false := by rfl) :
    PE X (.Call (.Name x p) (e :: es) [] pos) (tCall sp [] E t) := pe_call G (hr.mono hk) hg D.g D.F.kp D.b .nil (passUp tk) ha hdb he hpl
/-- pairs in order, as Python orders them -/
def lexLt (a b : Nat × Nat) : Bool := if a.1 = b.1 then decide (a.2 < b.2) else decide (a.1 < b.1)
def lexLe (a b : Nat × Nat) : Prop := lexLt b a = false
theorem lex_anti {a b : Nat × Nat} (h : lexLe a b) (k : lexLe b a) : a = b := by
  obtain ⟨a1, a2⟩ := a
  obtain ⟨b1, b2⟩ := b
  unfold lexLe lexLt at h k
  dsimp only at h k
  by_cases e : b1 = a1
  · rw [if_pos e] at h
    rw [if_pos e.symm] at k
    have := of_decide_eq_false h
    have := of_decide_eq_false k
    rw [e, show a2 = b2 by omega]
  · rw [if_neg e] at h
    rw [if_neg (Ne.symm e)] at k
    have := of_decide_eq_false h
    have := of_decide_eq_false k
    omega
theorem lex_unique : ∀ {A B : List (Nat × Nat)}, A.Perm B → A.Pairwise lexLe → B.Pairwise lexLe → A = B
  | [], B, p, _, _ => (List.nil_perm.mp p).symm
  | a :: A, [], p, _, _ => absurd (List.perm_nil.mp p) (by simp)
  | a :: A, b :: B, p, hA, hB => by
    have pa := List.pairwise_cons.mp hA
    have pb := List.pairwise_cons.mp hB
    have e : a = b := by
      rcases List.mem_cons.mp (p.mem_iff.mp (List.mem_cons_self (a := a) (l := A))) with e | e
      · exact e
      · rcases List.mem_cons.mp (p.mem_iff.mpr (List.mem_cons_self (a := b) (l := B))) with k | k
        · exact k.symm
        · exact lex_anti (pa.1 _ k) (pb.1 _ e)
    subst e
    rw [lex_unique ((List.perm_cons a).mp p) pa.2 pb.2]
/-- the order of pairs as they stand in a heap -/
def keyOf (H : Hp) : V → Int × Int
  | .ref t => match H t with
    | some (.tup [.int i, .int j]) => (i, j)
    | _ => (0, 0)
  | _ => (0, 0)
theorem keyOf_at {H : Hp} {T : Addr} {m : Nat × Nat} (h : H T = some (mT m)) : keyOf H (.ref T) = ((m.1 : Int), (m.2 : Int)) := by
  show (match H T with
    | some (.tup [.int i, .int j]) => (i, j)
    | _ => (0, 0)) = _
  rw [h]
  rfl
theorem lexB_nat (a b : Nat × Nat) : SrtO.lexB ((a.1 : Int), (a.2 : Int)) ((b.1 : Int), (b.2 : Int)) = lexLt a b := by
  unfold SrtO.lexB lexLt
  dsimp only
  by_cases h : a.1 = b.1
  · rw [if_pos (by omega), if_pos h]
    exact decide_eq_decide.mpr (by omega)
  · rw [if_neg (by omega), if_neg h]
    exact decide_eq_decide.mpr (by omega)
theorem Prs.mem2 {H : Hp} : ∀ {xs M} {m : Nat × Nat}, Prs H xs M → m ∈ M → ∃ T, V.ref T ∈ xs ∧ H T = some (mT m)
  | _, _, _, .nil, h => by simp at h
  | _, _, _, .cons (T := T) h r, hm => by
    rcases List.mem_cons.mp hm with e | e
    · exact ⟨T, List.mem_cons_self, by rw [e]; exact h⟩
    · obtain ⟨T2, a, b⟩ := r.mem2 e
      exact ⟨T2, List.mem_cons_of_mem _ a, b⟩
theorem Prs.sorted {H : Hp} : ∀ {xs M}, Prs H xs M → SrtO.Srtd (ltP (keyOf H)) xs → M.Pairwise lexLe
  | _, _, .nil, _ => .nil
  | _, _, .cons h r, s => by
    have p := List.pairwise_cons.mp s
    refine List.pairwise_cons.mpr ⟨fun b hb => ?_, r.sorted p.2⟩
    obtain ⟨T2, a2, b2⟩ := r.mem2 hb
    have := p.1 _ a2
    unfold ltP at this
    rw [keyOf_at h, keyOf_at b2, lexB_nat] at this
    exact this
theorem sortP {K : PySem.W.Frag} {H : Hp} {a : Addr} {xs : List V} {M : List (Nat × Nat)} {Q : VK} (ea : H a = some (.lst xs)) (hM : Prs H xs M) (q : ∀ ys p N, N.Perm M → N.Pairwise lexLe → Prs H ys N → H p = none → Q (.ref p) (upd H p (.lst ys))) : rSortedPO K [.ref a] H Q := by
  refine ⟨a, xs, keyOf H, rfl, SqL.of ea, fun x hx => ?_, fun ys p s st np => ?_⟩
  · obtain ⟨T, m, rfl, _, e⟩ := hM.mem hx
    refine ⟨T, rfl, ?_⟩
    rw [keyOf_at e]
    exact e
  · obtain ⟨N, hN, pN⟩ := hM.perm st.perm
    exact q ys p N pN (hN.sorted s) hN np
section
variable {P : Program} {w : World} {K : PySem.W.Frag} {mg : Str → Option Value} {base : Heap} {AD : Ads}
theorem ColsAt.but {C : Addr} {H H' : Hp} {x : Addr} (hx : ∀ l, ¬ ColAt C H x l) (b : But x H H') : ∀ {ys W}, ColsAt C H ys W → ColsAt C H' ys W
  | _, _, .nil => .nil
  | _, _, .cons (y := y) (l := l) h r => .cons (h.mono fun o e => b y o (fun z => hx l (by rw [← z]; exact h)) e) (r.but hx b)
theorem Prs.but {H H' : Hp} {x : Addr} (hx : ∀ m, H x ≠ some (mT m)) (b : But x H H') {xs M} (h : Prs H xs M) : Prs H' xs M := h.keep (o := .lst []) hx fun c o n e => b c o n e
/-- a Card of the words W (size n) with the marks M -/
def CardAt (AD : Ads) (H : Hp) (a : Addr) (W : List (List Nat)) (M : List (Nat × Nat)) (n : Nat) : Prop := ∃ dx tc tw tm ys ms N, H a = some (.ins AD.C_Card dx [("columns", .ref tc), ("size", .int (n : Nat)), ("width", .int (W.length : Nat)), ("words", .ref tw), ("marks", .ref tm)]) ∧
  H tc = some (.tup (refsV ys)) ∧ ColsAt AD.C_Column H ys W ∧ H tw = some (.tup (strsV W)) ∧ H tm = some (.tup ms) ∧ Prs H ms N ∧ N.Perm M ∧ N.Pairwise lexLe
def spCard (AD : Ads) : Sp := fun vs H Q _ => ∃ x dx cl ys W ml xs M n, vs = [.ref x, .ref cl, .ref ml] ∧ H x = some (.ins AD.C_Card dx []) ∧ H cl = some (.lst (refsV ys)) ∧ ColsAt AD.C_Column H ys W ∧ GoodW W n ∧ (1 ≤ W.length ∧ W.length ≤ 12) ∧ (1 ≤ n ∧ n ≤ 6) ∧
  H ml = some (.lst xs) ∧ Prs H xs M ∧ OkM M W.length n ∧ ∀ H', But x H H' → CardAt AD H' x W M n → Q .non H'
theorem ok_Card___init__ (T : Top K mg AD) : FnOk P w K mg base (L2.CX P w) 6 AD.f_Card___init__ AD.d_Card___init__ P_Card___init__ (spCard AD) := by
  refine T.D_Card___init__.F.okX sc_Card___init__ (fun vs H Q E h => ?_) (fun cdv A outer s H vs Q E hr h => ?_)
  · obtain ⟨x, dx, cl, ys, W, ml, xs, M, n, rfl, _⟩ := h
    rfl
  · obtain ⟨x, dx, cl, ys, W, ml, xs, M, n, rfl, ex, ec, cs, gW, ⟨w1, w12⟩, ⟨n1, n6⟩, em, hM, ok, q⟩ := h
    have clC := T.cl_Column
    have nz := T.n_Column_size
    have nw := T.n_Column_word
    have yl := cs.len
    refine ⟨_, (pss_cons (ps_expr (callU T.D_check_columns (ok_check_columns T) hr (takes_of rfl rfl rfl rfl) (pa_cons (pv 1) pa_nil)))
    (pss_cons (ps_fld (pv 0) (pe_callTy call_tuple_of (by rfl) T.b_tuple (by decide +kernel) (pa_cons (pv 1) pa_nil)) rfl)
    (pss_cons (ps_fld (pv 0) (pe_fld (pe_ix (ix_Q (K := K) rfl) (pv 1) pe_int (fun _ _ => rfl)) rfl) rfl)
    (pss_cons (ps_fld (pv 0) (pe_callB (call_lenQ (K := K) rfl) (by rfl) T.b_len (by decide +kernel) (pa_cons (pv 1) pa_nil)) rfl)
    (pss_cons (ps_fld (pv 0) (pe_callTy call_tuple_of (by rfl) T.b_tuple (by decide +kernel) (pa_cons (pe_lc (own := [("column", 3)]) (g := (gName 3)) (tt := tYes) rfl sc_Card___init__.nd (pi_seqQ (K := K) (by rfl) (pv 1)) (blkOk_by (N := N_Card___init__) (sc := defScope s_Card___init__) (by decide +kernel)) (fun _ _ _ _ _ => (pg_name (i := 3) sc_Card___init__.nd rfl (by first | exact Or.inl rfl | exact Or.inr rfl))) (fun _ _ _ _ _ => pts_nil) (fun _ _ _ _ _ => (pe_fldK (K := K) (by rfl) (pv 3) rfl))) pa_nil)) rfl)
    (pss_one (ps_fld (pv 0) (pe_callTy call_tuple_of (by rfl) T.b_tuple (by decide +kernel) (pa_cons (pe_callB cr_sortedPO (by rfl) T.b_sorted (by decide +kernel) (pa_cons (callU T.D_new_marks (ok_new_marks T) hr (takes_of rfl rfl rfl rfl) (pa_cons (pv 2) (pa_cons (pe_fld (pv 0) rfl) (pa_cons (pe_fld (pv 0) rfl) (pa_cons (pe_tup pa_nil) pa_nil))))) pa_nil)) pa_nil)) rfl))))))), ?_⟩
    have nx : ∀ l, ¬ ColAt AD.C_Column H x l := fun l ⟨d, e⟩ => by rw [ex] at e; exact absurd (HO.ins.inj (Option.some.inj e)).2.2 (by simp)
    have nm : ∀ m, H x ≠ some (mT m) := fun m e => by rw [ex] at e; cases e
    have clx : cl ≠ x := fun z => by rw [z, ex] at ec; cases ec
    have mlx : ml ≠ x := fun z => by rw [z, ex] at em; cases em
    have clA := T.cl_Card
    obtain ⟨l0, hl0⟩ : ∃ l0, W[0]? = some l0 := ⟨_, List.getElem?_eq_getElem (by omega)⟩
    walk_at "go"
    refine ⟨cl, ys, W, n, rfl, ec, cs, gW, ⟨w1, w12⟩, fun H1 s1 => ?_⟩
    have B1 : But x H H1 := fun b o _ h => s1 b o h
    have ex1 := s1 _ _ ex
    clear s1
    walk_at "go"
    refine ⟨cl, _, rfl, .inl ⟨SqL.of (B1 _ _ clx ec), fun tc ntc => ?_⟩⟩
    have tcx : tc ≠ x := fun z => by rw [z, ex1] at ntc; cases ntc
    have s := same_new (o := .tup (refsV ys)) (Same.refl H1) ntc
    have B2 : But x H (upd H1 tc (.tup (refsV ys))) := fun b o nb h => s b o (B1 b o nb h)
    have ex2 := s _ _ ex1
    have etc : upd H1 tc (.tup (refsV ys)) tc = some (.tup (refsV ys)) := upd_same
    generalize upd H1 tc (.tup (refsV ys)) = H2 at B2 ex2 etc ⊢
    clear s ntc B1 ex1
    walk_at "go"
    refine ⟨x, _, dx, _, rfl, ex2, T.cl_Card, T.n_Card_columns, by show 0 < 1000; decide, ?_⟩
    have ex3 : upd H2 x (.ins AD.C_Card dx (putF "columns" (.ref tc) [])) x = some (.ins AD.C_Card dx [("columns", .ref tc)]) := upd_same
    replace B2 : But x H (upd H2 x (.ins AD.C_Card dx (putF "columns" (.ref tc) []))) := But.upd B2
    replace etc : upd H2 x (.ins AD.C_Card dx (putF "columns" (.ref tc) [])) tc = _ := (upd_ne tcx).trans etc
    generalize upd H2 x (.ins AD.C_Card dx (putF "columns" (.ref tc) [])) = H3 at B2 ex3 etc ⊢
    clear ex2
    have ex2 := ex3
    clear ex3
    obtain ⟨y0, hy0, c0⟩ := (cs.but nx B2).at hl0
    obtain ⟨d0, e0⟩ := c0
    have ec3 : Seq2 K H3 cl (refsV ys) := .inl (B2 _ _ clx ec)
    walk_at "go"
    refine ixQ_of (i := 0) ec3 (atI_nat (j := 0) (refsV_at hy0)) ?_
    walk_at "go"
    rw [(gW.at hl0).cnt]
    refine ⟨x, _, dx, _, rfl, ex2, T.cl_Card, T.n_Card_size, by show 1 < 1000; decide, ?_⟩
    clear e0 ec3 hy0
    have ex3 : upd H3 x (.ins AD.C_Card dx (putF "size" (.int (n : Nat)) [("columns", .ref tc)])) x = some (.ins AD.C_Card dx [("columns", .ref tc), ("size", .int (n : Nat))]) := upd_same
    replace B2 : But x H (upd H3 x (.ins AD.C_Card dx (putF "size" (.int (n : Nat)) [("columns", .ref tc)]))) := But.upd B2
    replace etc : upd H3 x (.ins AD.C_Card dx (putF "size" (.int (n : Nat)) [("columns", .ref tc)])) tc = _ := (upd_ne tcx).trans etc
    generalize upd H3 x (.ins AD.C_Card dx (putF "size" (.int (n : Nat)) [("columns", .ref tc)])) = H4 at B2 ex3 etc ⊢
    clear ex2
    have ex2 := ex3
    clear ex3
    have ec4 : Seq2 K H4 cl (refsV ys) := .inl (B2 _ _ clx ec)
    walk_at "go"
    refine ⟨cl, _, rfl, ec4.q, ?_⟩
    rw [refsV_len, yl]
    walk_at "go"
    refine ⟨x, _, dx, _, rfl, ex2, T.cl_Card, T.n_Card_width, by show 2 < 1000; decide, ?_⟩
    clear ec4
    have ex3 : upd H4 x (.ins AD.C_Card dx (putF "width" (.int (W.length : Nat)) [("columns", .ref tc), ("size", .int (n : Nat))])) x = some (.ins AD.C_Card dx [("columns", .ref tc), ("size", .int (n : Nat)), ("width", .int (W.length : Nat))]) := upd_same
    replace B2 : But x H (upd H4 x (.ins AD.C_Card dx (putF "width" (.int (W.length : Nat)) [("columns", .ref tc), ("size", .int (n : Nat))]))) := But.upd B2
    replace etc : upd H4 x (.ins AD.C_Card dx (putF "width" (.int (W.length : Nat)) [("columns", .ref tc), ("size", .int (n : Nat))])) tc = _ := (upd_ne tcx).trans etc
    generalize upd H4 x (.ins AD.C_Card dx (putF "width" (.int (W.length : Nat)) [("columns", .ref tc), ("size", .int (n : Nat))])) = H5 at B2 ex3 etc ⊢
    clear ex2
    have ex2 := ex3
    clear ex3
    walk_at "go"
    refine ⟨cl, _, rfl, .inl ⟨SqL.of (B2 _ _ clx ec), ?_⟩⟩
    intro D hD
    have cs5 := cs.but nx B2
    refine lc_it (walk_list (xs := refsV ys)) (fun i H' => But D H5 H' ∧ H' D = some (.lst (strsV (W.take i)))) ⟨But.upd (But.refl _ _), by rw [List.take_zero]; exact upd_same⟩
      (fun i H' hi h => SqL.of (same_but (Same.refl _) hD h.1 _ _ (B2 _ _ clx ec))) ?_ ?_
    · rintro i z Ha Hb hi ⟨b2, e3⟩ ⟨rfl, ez⟩
      obtain ⟨y, hy, rfl⟩ := refsV_un ez
      obtain ⟨l, hl, cy⟩ := cs5.at2 hy
      obtain ⟨d, ey⟩ := cy.mono (same_but (Same.refl _) hD b2 y)
      have fits : (strsV (W.take i)).length < sizeLine := small1000 (by rw [strsV_len]; have := List.length_take_le' i W; omega)
      walk_at "go"
      refine ⟨_, e3, fits, But.upd b2, ?_⟩
      rw [upd_same, strsV_snoc, List.take_add_one, hl]
      rfl
    rintro H6 ⟨b6, e6⟩
    rw [refsV_len, yl, List.take_length] at e6
    have s6 := same_but (Same.refl _) hD b6
    replace B2 : But x H H6 := fun b o nb h => s6 b o (B2 b o nb h)
    replace ex2 := s6 _ _ ex2
    replace etc := s6 _ _ etc
    clear s6 b6 hD cs5
    walk_at "go"
    refine ⟨D, _, rfl, .inl ⟨SqL.of e6, fun tw ntw => ?_⟩⟩
    have twx : tw ≠ x := fun z => by rw [z, ex2] at ntw; cases ntw
    have s := same_new (o := .tup (strsV W)) (Same.refl H6) ntw
    replace B2 : But x H (upd H6 tw (.tup (strsV W))) := fun b o nb h => s b o (B2 b o nb h)
    replace ex2 := s _ _ ex2
    replace etc := s _ _ etc
    have etw : upd H6 tw (.tup (strsV W)) tw = some (.tup (strsV W)) := upd_same
    generalize upd H6 tw (.tup (strsV W)) = H7 at B2 ex2 etc etw ⊢
    clear s ntw e6
    walk_at "go"
    refine ⟨x, _, dx, _, rfl, ex2, T.cl_Card, T.n_Card_words, by show 3 < 1000; decide, ?_⟩
    have ex3 : upd H7 x (.ins AD.C_Card dx (putF "words" (.ref tw) [("columns", .ref tc), ("size", .int (n : Nat)), ("width", .int (W.length : Nat))])) x = some (.ins AD.C_Card dx [("columns", .ref tc), ("size", .int (n : Nat)), ("width", .int (W.length : Nat)), ("words", .ref tw)]) := upd_same
    replace B2 : But x H (upd H7 x (.ins AD.C_Card dx (putF "words" (.ref tw) [("columns", .ref tc), ("size", .int (n : Nat)), ("width", .int (W.length : Nat))]))) := But.upd B2
    replace etc : upd H7 x (.ins AD.C_Card dx (putF "words" (.ref tw) [("columns", .ref tc), ("size", .int (n : Nat)), ("width", .int (W.length : Nat))])) tc = _ := (upd_ne tcx).trans etc
    replace etw : upd H7 x (.ins AD.C_Card dx (putF "words" (.ref tw) [("columns", .ref tc), ("size", .int (n : Nat)), ("width", .int (W.length : Nat))])) tw = _ := (upd_ne twx).trans etw
    generalize upd H7 x (.ins AD.C_Card dx (putF "words" (.ref tw) [("columns", .ref tc), ("size", .int (n : Nat)), ("width", .int (W.length : Nat))])) = H8 at B2 ex3 etc etw ⊢
    clear ex2
    have ex2 := ex3
    clear ex3
    have n1' := T.n_Card_size
    have n2' := T.n_Card_width
    walk_at "go"
    intro tk ntk
    have s := same_new (o := .tup []) (Same.refl H8) ntk
    replace B2 : But x H (upd H8 tk (.tup [])) := fun b o nb h => s b o (B2 b o nb h)
    replace ex2 := s _ _ ex2
    replace etc := s _ _ etc
    replace etw := s _ _ etw
    have etk : upd H8 tk (.tup []) tk = some (.tup []) := upd_same
    generalize upd H8 tk (.tup []) = H9 at B2 ex2 etc etw etk ⊢
    clear s ntk
    walk_at "go"
    refine ⟨ml, xs, M, tk, n, W.length, rfl, B2 _ _ mlx em, hM.but nm B2, ok, etk, fun f zs H10 s nf ef hz => ?_⟩
    replace B2 : But x H H10 := fun b o nb h => s b o (B2 b o nb h)
    replace ex2 := s _ _ ex2
    replace etc := s _ _ etc
    replace etw := s _ _ etw
    clear s nf etk
    walk_at "go"
    refine ⟨f, zs, keyOf H10, rfl, SqL.of ef, fun z hz2 => ?_, fun zs2 p2 sd st np2 => ?_⟩
    · obtain ⟨T, m, rfl, _, e⟩ := hz.mem hz2
      exact ⟨T, rfl, by rw [keyOf_at e]; exact e⟩
    obtain ⟨N, hN, pN⟩ := hz.perm st.perm
    have sN := hN.sorted sd
    have s := same_new (o := .lst zs2) (Same.refl H10) np2
    replace B2 : But x H (upd H10 p2 (.lst zs2)) := fun b o nb h => s b o (B2 b o nb h)
    replace ex2 := s _ _ ex2
    replace etc := s _ _ etc
    replace etw := s _ _ etw
    replace hN := hN.mono s
    have ep2 : upd H10 p2 (.lst zs2) p2 = some (.lst zs2) := upd_same
    generalize upd H10 p2 (.lst zs2) = H11 at B2 ex2 etc etw hN ep2 ⊢
    clear s np2 ef hz
    walk_at "go"
    refine ⟨p2, _, rfl, .inl ⟨SqL.of ep2, fun tm ntm => ?_⟩⟩
    have tmx : tm ≠ x := fun z => by rw [z, ex2] at ntm; cases ntm
    have s := same_new (o := .tup zs2) (Same.refl H11) ntm
    replace B2 : But x H (upd H11 tm (.tup zs2)) := fun b o nb h => s b o (B2 b o nb h)
    replace ex2 := s _ _ ex2
    replace etc := s _ _ etc
    replace etw := s _ _ etw
    replace hN := hN.mono s
    have etm : upd H11 tm (.tup zs2) tm = some (.tup zs2) := upd_same
    generalize upd H11 tm (.tup zs2) = H12 at B2 ex2 etc etw hN etm ⊢
    clear s ntm ep2
    walk_at "go"
    refine ⟨x, _, dx, _, rfl, ex2, T.cl_Card, T.n_Card_marks, by show 4 < 1000; decide, ?_⟩
    refine q _ (But.upd B2) ⟨dx, tc, tw, tm, ys, zs2, N, upd_same, (upd_ne tcx).trans etc, cs.but nx (But.upd B2), (upd_ne twx).trans etw, (upd_ne tmx).trans etm, ?_, pN, sN⟩
    exact hN.keep (o := .lst []) (fun m e => by rw [ex2] at e; cases e) fun c o nc h => (upd_ne nc).trans h
end

/-! ### texts of cards -/
section
variable {P : Program} {w : World} {K : PySem.W.Frag} {mg : Str → Option Value} {base : Heap} {AD : Ads}
structure NumT (l : List Nat) : Prop where
  ne : l ≠ []
  le : l.length ≤ 3
  dg : ∀ c ∈ l, 48 ≤ c ∧ c ≤ 57
  hd : l = [48] ∨ ∃ c r, l = c :: r ∧ c ≠ 48
def spNumText : Sp := fun vs H Q _ => ∃ (l : List Nat), vs = [.str (sOf l)] ∧ NumT l ∧ ∀ H', Same H H' → Q (.bl true) H'
theorem ok_is_number_text (T : Top K mg AD) : FnOk P w K mg base CX0 1 AD.f_is_number_text AD.d_is_number_text P_is_number_text (spNumText) := by
  refine T.D_is_number_text.F.ok sc_is_number_text (fun vs H Q E h => ?_) (fun cdv A outer s H vs Q E hr h => ?_)
  · obtain ⟨l, rfl, _⟩ := h
    rfl
  · obtain ⟨l, rfl, nt, q⟩ := h
    obtain ⟨_, hc_MOST_DIGITS⟩ := T.c_MOST_DIGITS
    obtain ⟨_, hc_DIGITS⟩ := T.c_DIGITS
    have l1 : 1 ≤ l.length := List.length_pos_iff.mpr nt.ne
    have l3 := nt.le
    refine ⟨_, (pss_cons (ps_if (PW.pt (pw_or (pt_not (pt_chain op_le op_le pe_int (pe_callB call_lenS (by rfl) T.b_len (by decide +kernel) (pa_cons (pv 0) pa_nil)) (pe_glob (v := .int 3) rfl hc_MOST_DIGITS ⟨_, rfl⟩))) (pw_or1 (pt_not (pt_val (pe_callB (cr_all rfl) (by rfl) T.b_all (by decide +kernel) (pa_cons (pe_lc (own := [("digit", 1)]) (g := (gName 1)) (tt := tYes) rfl sc_is_number_text.nd (pi_str (pv 0)) (blkOk_by (N := N_is_number_text) (sc := defScope s_is_number_text) (by decide +kernel)) (fun _ _ _ _ _ => (pg_name (i := 1) sc_is_number_text.nd rfl (by first | exact Or.inl rfl | exact Or.inr rfl))) (fun _ _ _ _ _ => pts_nil) (fun _ _ _ _ _ => (pe_cmpR op_in_sign (pv 1) (pe_glob (v := .str (sOf [48, 49, 50, 51, 52, 53, 54, 55, 56, 57])) rfl hc_DIGITS ⟨_, rfl⟩) (by rfl)))) pa_nil)))))))
    (pss_one (ps_ret pe_bl))
    pss_nil)
    (pss_one (ps_ret (pe_or (pe_cmpR op_eq (pv 0) (pe_s (x := Str.ofString "0") [48] (by decide +kernel)) (nomark _)) (pe_one (pe_cmpR op_ne (pe_ix ix_S (pv 0) pe_int (fun _ _ => rfl)) (pe_s (x := Str.ofString "0") [48] (by decide +kernel)) (nomark _))))))), ?_⟩
    walk_at "go"
    refine ite2 (fun e => ?_) (fun e => absurd (decide_eq_true (by omega)) e)
    walk_at "go"
    rw [decide_eq_true (show ((l.length : Nat) : Int) ≤ 3 by omega)]
    walk_at "go"
    intro D hD
    refine lc_it walk_S (fun i H' => But D H H' ∧ H' D = some (.lst ((l.take i).map fun c => V.bl (decide (c ∈ [48, 49, 50, 51, 52, 53, 54, 55, 56, 57]))))) ⟨But.upd (But.refl _ _), upd_same⟩ (fun _ _ _ _ => trivial) ?_ ?_
    · rintro i x H2 H3 hi ⟨b2, e2⟩ ⟨rfl, c, hc, rfl⟩
      walk_at "go"
      refine ⟨_, e2, small1000 (by rw [List.length_map]; have := List.length_take_le i l; omega), But.upd b2, ?_⟩
      rw [upd_same, List.take_add_one, hc, List.map_append]
      rfl
    · rintro H2 ⟨b2, e2⟩
      rw [List.take_length] at e2
      have s2 : Same H H2 := same_but (Same.refl _) hD b2
      walk_at "go"
      refine ⟨D, l.map fun c => decide (c ∈ [48, 49, 50, 51, 52, 53, 54, 55, 56, 57]), rfl, SqL.of (by rw [e2, List.map_map]; rfl), ?_⟩
      have hall : (l.map fun c => decide (c ∈ [48, 49, 50, 51, 52, 53, 54, 55, 56, 57])).all id = true := by
        rw [List.all_map, List.all_eq_true]
        intro c hc
        have := nt.dg c hc
        show decide _ = true
        refine decide_eq_true ?_
        simp only [List.mem_cons, List.not_mem_nil, or_false]
        omega
      rw [hall]
      walk_at "go"
      refine ite2 (fun e => q H2 s2) (fun e => ?_)
      have hne : l ≠ [48] := fun z => e (by rw [z]; exact decide_eq_true rfl)
      rcases nt.hd with z | ⟨c, r, z, hc⟩
      · exact absurd z hne
      walk_at "go"
      refine ⟨l, 0, c, rfl, rfl, by omega, atI_nat (j := 0) (by rw [z]; rfl), ?_⟩
      refine ⟨rfl, ?_⟩
      rw [decide_eq_false (show ¬ V.str (sOf [c]) = V.str (sOf [48]) from fun y => hc (by simpa using sOf_inj.mp (V.str.inj y)))]
      exact q H2 s2
def spWordRow : Sp := fun vs H Q _ => ∃ (l : List Nat), vs = [.str (sOf l)] ∧ l.length ≤ 1000 ∧ ∀ H', Same H H' → Q (.bl (!l.isEmpty && ltrs l)) H'
theorem ok_is_word_row (T : Top K mg AD) : FnOk P w K mg base CX0 1 AD.f_is_word_row AD.d_is_word_row P_is_word_row (spWordRow) := by
  refine T.D_is_word_row.F.ok sc_is_word_row (fun vs H Q E h => ?_) (fun cdv A outer s H vs Q E hr h => ?_)
  · obtain ⟨l, rfl, _⟩ := h
    rfl
  · obtain ⟨l, rfl, hl, q⟩ := h
    refine ⟨_, (pss_one (ps_ret (pe_and (pe_cmpR op_ne (pv 0) (pe_s (x := Str.ofString "") [] (by decide +kernel)) (nomark _)) (pe_one (pe_callB (cr_all rfl) (by rfl) T.b_all (by decide +kernel) (pa_cons (pe_lc (own := [("letter", 1)]) (g := (gName 1)) (tt := tYes) rfl sc_is_word_row.nd (pi_str (pv 0)) (blkOk_by (N := N_is_word_row) (sc := defScope s_is_word_row) (by decide +kernel)) (fun _ _ _ _ _ => (pg_name (i := 1) sc_is_word_row.nd rfl (by first | exact Or.inl rfl | exact Or.inr rfl))) (fun _ _ _ _ _ => pts_nil) (fun _ _ _ _ _ => (pe_cmpR (op_inK (K := K) rfl) (pv 1) (pe_tup (pa_cons (pe_s (x := Str.ofString "d") [100] (by decide +kernel)) (pa_cons (pe_s (x := Str.ofString "o") [111] (by decide +kernel)) pa_nil))) (by rfl)))) pa_nil)))))), ?_⟩
    walk_at "go"
    refine ite2 (fun e => ?_) (fun e => ?_)
    rotate_left
    · have e2 : l = [] := by simpa [sOf_inj] using e
      subst e2
      exact q H (Same.refl H)
    have e0 : l.isEmpty = false := by
      cases l with
      | nil => simp at e
      | cons _ _ => rfl
    rw [e0] at q
    walk_at "go"
    intro Dl hD
    refine lc_it walk_S (fun i H' => But Dl H H' ∧ H' Dl = some (.lst ((l.take i).map fun c => V.bl (c == 100 || c == 111)))) ⟨But.upd (But.refl _ _), upd_same⟩ (fun _ _ _ _ => trivial) ?_ ?_
    · rintro i x H2 H3 hi ⟨b2, e2⟩ ⟨rfl, c, hc, rfl⟩
      walk_at "go"
      refine ⟨szl (by decide), fun p hp => ?_⟩
      have hpd : Dl ≠ p := ne_of_none e2 hp
      refine ⟨p, _, rfl, .inr (SqT.of upd_same), rfl, rfl, ?_⟩
      refine ⟨_, (upd_ne hpd).trans e2, ?_, But.upd (b2.new hp), ?_⟩
      · rw [List.length_map]
        exact small1000 (by have := List.length_take_le i l; omega)
      · rw [upd_same, List.take_add_one, hc, List.map_append]
        show some (HO.lst (_ ++ [V.bl (if false = true then _ else _)])) = _
        rw [if_neg Bool.false_ne_true, inV_do]
        rfl
    · rintro H2 ⟨b2, e2⟩
      rw [List.take_length] at e2
      have s2 : Same H H2 := same_but (Same.refl _) hD b2
      walk_at "go"
      refine ⟨Dl, l.map fun c => c == 100 || c == 111, rfl, SqL.of (by rw [e2, List.map_map]; rfl), ?_⟩
      have hall : (l.map fun c => c == 100 || c == 111).all id = ltrs l := by
        unfold ltrs
        rw [List.all_map]
        rfl
      rw [hall]
      exact q H2 s2
end

/-! ### texts of cards: rows -/
def numC (n : Nat) : List Nat := if n < 10 then [48 + n] else [48 + n / 10, 48 + n % 10]
def slitL (m : Nat × Nat) : List Nat := [115, 108, 105, 116, 32] ++ numC m.1 ++ [32] ++ numC m.2
def nlS : Str := sOf [10]
/-- the rows of a card's text -/
def rowsL (W : List (List Nat)) (M : List (Nat × Nat)) : List (List Nat) := W ++ M.map slitL
def txtOf (W : List (List Nat)) (M : List (Nat × Nat)) : Str := Txt.join nlS ((rowsL W M).map sOf)
def all12 (f : Nat → Nat → Bool) : Bool := (List.range 12).all fun c => (List.range 12).all fun t => f c t
theorem by12 {f : Nat → Nat → Bool} (e : all12 f = true) {c t : Nat} (hc : c < 12) (ht : t < 12) : f c t = true :=
  List.all_eq_true.mp (List.all_eq_true.mp e c (List.mem_range.mpr hc)) t (List.mem_range.mpr ht)
theorem slit_split0 : all12 (fun c t => decide (Txt.split (sOf (slitL (c, t))) (sOf [32]) = [sOf [115, 108, 105, 116], sOf (numC c), sOf (numC t)])) = true := by decide +kernel
theorem word_split0 : allWords.all (fun l => decide (Txt.split (sOf l) (sOf [32]) = [sOf l])) = true := by decide +kernel
theorem num_int0 : all12 (fun c _ => decide (PySem.intText? (sOf (numC c)) = some (c : Int))) = true := by decide +kernel
theorem row_not0 : all12 (fun c t => decide (¬ (!(slitL (c, t)).isEmpty && ltrs (slitL (c, t))) = true) && decide ((slitL (c, t)).length ≤ 11) && decide (10 ∉ slitL (c, t))) = true := by decide +kernel
theorem word_nl0 : allWords.all (fun l => decide (10 ∉ l) && (!l.isEmpty && ltrs l)) = true := by decide +kernel
theorem text_split {W : List (List Nat)} {M : List (Nat × Nat)} {n : Nat} (h1 : 1 ≤ n) (h6 : n ≤ 6) (gW : GoodW W n) (hW : 1 ≤ W.length) (hM : ∀ m ∈ M, m.1 < 12 ∧ m.2 < 12) : Txt.split (txtOf W M) nlS = (rowsL W M).map sOf := by
  refine TL.split_join (s := 10) (S := []) rfl (by decide +kernel) (fun e => ?_) fun p hp => ?_
  · have := congrArg List.length e
    rw [List.length_map, rowsL, List.length_append, List.length_nil] at this
    omega
  · obtain ⟨l, hl, rfl⟩ := List.mem_map.mp hp
    show 10 ∉ l
    rcases List.mem_append.mp hl with h | h
    · have := Good.by (gW l h) h1 h6 _ word_nl0
      rw [Bool.and_eq_true] at this
      exact of_decide_eq_true this.1
    · obtain ⟨m, hm, rfl⟩ := List.mem_map.mp h
      have := by12 row_not0 (hM m hm).1 (hM m hm).2
      rw [Bool.and_eq_true] at this
      exact of_decide_eq_true this.2
theorem num_ok0 : all12 (fun c _ => decide (numC c ≠ []) && decide ((numC c).length ≤ 3) && (numC c).all (fun z => decide (48 ≤ z ∧ z ≤ 57)) && (decide (numC c = [48]) || (match numC c with | z :: _ => decide (z ≠ 48) | [] => false))) = true := by decide +kernel
theorem numT {c : Nat} (h : c < 12) : NumT (numC c) := by
  have := by12 num_ok0 h (t := 0) (by decide)
  simp only [Bool.and_eq_true, Bool.or_eq_true, decide_eq_true_eq] at this
  obtain ⟨⟨⟨a, b⟩, d⟩, e⟩ := this
  refine ⟨a, b, fun z hz => of_decide_eq_true (List.all_eq_true.mp d z hz), e.imp id fun y => ?_⟩
  cases hq : numC c with
  | nil => exact absurd hq a
  | cons z r =>
    rw [hq] at y
    exact ⟨z, r, rfl, of_decide_eq_true y⟩
/-! an f-string within a comprehension: a term with a name -/
def tFs (ts : List TE) : TE := fun σ H Q => tJs ts Str.empty σ H fun out H1 => Q (V.str out) H1
theorem pe_joinedD {X : Cx} {v1 v2 : Expr} {rest : List Expr} {ts : List TE} {pos : Pos} (h : PJ X (v1 :: v2 :: rest) ts) : PE X (.JoinedStr (v1 :: v2 :: rest) pos) (tFs ts) := pe_joined h
theorem lenI5 {i : Nat} (h1 : i < 12) : (toString (i : Int) : Str).length ≤ 3 ∧ (i : Int).natAbs.log2 < 1920 := by
  refine ⟨?_, Nat.lt_of_le_of_lt (Nat.log2_le_self _) (by omega)⟩
  have : i = 0 ∨ i = 1 ∨ i = 2 ∨ i = 3 ∨ i = 4 ∨ i = 5 ∨ i = 6 ∨ i = 7 ∨ i = 8 ∨ i = 9 ∨ i = 10 ∨ i = 11 := by omega
  rcases this with rfl | rfl | rfl | rfl | rfl | rfl | rfl | rfl | rfl | rfl | rfl | rfl <;> decide +kernel
theorem lenA5 {a b : Str} {m n : Nat} (h : a.length ≤ m) (k : b.length ≤ n) : (a ++ b).length ≤ m + n := by
  rw [Str.length_append]
  omega
def fS (c t : Nat) : Str := ((((Str.empty ++ ("slit " : Str)) ++ (toString (c : Int) : Str)) ++ (" " : Str)) ++ (toString (t : Int) : Str))
theorem fS0 : all12 (fun c t => decide (fS c t = sOf (slitL (c, t)))) = true := by decide +kernel
def lS (c t : Nat) : Str := ((("slit " : Str) ++ (toString (c : Int) : Str)) ++ (" " : Str)) ++ (toString (t : Int) : Str)
theorem lS0 : all12 (fun c t => decide (lS c t = sOf (slitL (c, t)))) = true := by decide +kernel
theorem sum12 : ∀ (xs : List Str), (∀ x ∈ xs, x.length ≤ 12) → (xs.map (·.length)).sum ≤ 12 * xs.length
  | [], _ => Nat.le_refl _
  | x :: xs, h => by
    have h1 := sum12 xs fun y hy => h y (List.mem_cons_of_mem _ hy)
    have h2 := h x List.mem_cons_self
    rw [List.map_cons, List.sum_cons, List.length_cons]
    omega
theorem rows_short {W : List (List Nat)} {N : List (Nat × Nat)} (hM : ∀ m ∈ N, m.1 < 12 ∧ m.2 < 12) (hW : ∀ l ∈ W, l.length ≤ 12) : ∀ x ∈ (rowsL W N).map sOf, x.length ≤ 12 := fun x hx => by
  obtain ⟨l, hl, rfl⟩ := List.mem_map.mp hx
  rw [sOf_len]
  rcases List.mem_append.mp hl with h | h
  · exact hW l h
  · obtain ⟨m, hm, rfl⟩ := List.mem_map.mp h
    have := by12 row_not0 (hM m hm).1 (hM m hm).2
    simp only [Bool.and_eq_true, decide_eq_true_eq] at this
    have := this.1.2
    show (slitL (m.1, m.2)).length ≤ 12
    omega
theorem rowsL_len (W : List (List Nat)) (N : List (Nat × Nat)) : (rowsL W N).length = W.length + N.length := by unfold rowsL; rw [List.length_append, List.length_map]

/-! ### a row of a text, read -/
section
variable {P : Program} {w : World} {K : PySem.W.Frag} {mg : Str → Option Value} {base : Heap} {AD : Ads}
def spSlitOf : Sp := fun vs H Q _ => ∃ (l : List Nat), vs = [.str (sOf l)] ∧ ((∃ m : Nat × Nat, l = slitL m ∧ m.1 < 12 ∧ m.2 < 12 ∧ ∀ p H', Same H H' → H p = none → H' p = some (mT m) → Q (.ref p) H') ∨
  (∃ n, Good l n ∧ 1 ≤ n ∧ n ≤ 6 ∧ ∀ H', Same H H' → Q .non H'))
theorem ok_slit_of (T : Top K mg AD) : FnOk P w K mg base CX0 2 AD.f_slit_of AD.d_slit_of P_slit_of (spSlitOf) := by
  refine T.D_slit_of.F.ok sc_slit_of (fun vs H Q E h => ?_) (fun cdv A outer s H vs Q E hr h => ?_)
  · obtain ⟨l, rfl, _⟩ := h
    rfl
  · obtain ⟨l, rfl, q⟩ := h
    refine ⟨_, (pss_cons (ps_set (i := 1) sc_slit_of.nd rfl (Or.inl rfl) (pe_m1 PySem.F.slot_str_split PySem.F.type_str_split mt_split (pv 0) (pe_s (x := Str.ofString " ") [32] (by decide +kernel))))
    (pss_cons (ps_if (PW.pt (pw_or (pt_cmpR op_ne (pe_callB (call_lenQ (K := K) rfl) (by rfl) T.b_len (by decide +kernel) (pa_cons (pv 1) pa_nil)) pe_int (nomark _)) (pw_or (pt_cmpR op_ne (pe_ix (ix_listK (K := K) rfl) (pv 1) pe_int (fun _ _ => rfl)) (pe_s (x := Str.ofString "slit") [115, 108, 105, 116] (by decide +kernel)) (nomark _)) (pw_or (pt_not (pt_val (callD T.D_is_number_text (ok_is_number_text T) hr (pa_cons (pe_ix (ix_listK (K := K) rfl) (pv 1) pe_int (fun _ _ => rfl)) pa_nil)))) (pw_or1 (pt_not (pt_val (callD T.D_is_number_text (ok_is_number_text T) hr (pa_cons (pe_ix (ix_listK (K := K) rfl) (pv 1) pe_int (fun _ _ => rfl)) pa_nil)))))))))
    (pss_one (ps_ret pe_non))
    pss_nil)
    (pss_one (ps_ret (pe_tup (pa_cons (pe_callTy call_int_str (by rfl) T.b_int (by decide +kernel) (pa_cons (pe_ix (ix_listK (K := K) rfl) (pv 1) pe_int (fun _ _ => rfl)) pa_nil)) (pa_cons (pe_callTy call_int_str (by rfl) T.b_int (by decide +kernel) (pa_cons (pe_ix (ix_listK (K := K) rfl) (pv 1) pe_int (fun _ _ => rfl)) pa_nil)) pa_nil))))))), ?_⟩
    walk_at "go"
    rcases q with ⟨m, rfl, m1, m2, q⟩ | ⟨n, g, n1, n6, q⟩
    · obtain ⟨c, t⟩ := m
      have e0 := by12 row_not0 m1 m2
      simp only [Bool.and_eq_true, decide_eq_true_eq] at e0
      have hz : (sOf (slitL (c, t))).length + 2 ≤ sizeLine := by rw [sOf_len]; exact szl (by have := e0.1.2; show _ ≤ 1000; omega)
      refine ⟨rfl, hz, ?_⟩
      rw [of_decide_eq_true (by12 slit_split0 m1 m2)]
      intro p np
      have s1 := same_new (o := .lst [.str (sOf [115, 108, 105, 116]), .str (sOf (numC c)), .str (sOf (numC t))]) (Same.refl H) np
      have ep : upd H p (.lst [.str (sOf [115, 108, 105, 116]), .str (sOf (numC c)), .str (sOf (numC t))]) p = _ := upd_same
      show gName 1 (.ref p) _ (upd H p (.lst [.str (sOf [115, 108, 105, 116]), .str (sOf (numC c)), .str (sOf (numC t))])) _
      generalize upd H p (.lst [.str (sOf [115, 108, 105, 116]), .str (sOf (numC c)), .str (sOf (numC t))]) = H1 at s1 ep ⊢
      have a1 : atI [V.str (sOf [115, 108, 105, 116]), .str (sOf (numC c)), .str (sOf (numC t))] 1 = some (.str (sOf (numC c))) := rfl
      walk_at "go"
      refine ⟨numT m1, fun H2 s2 => ?_⟩
      replace ep := s2 _ _ ep
      walk_at "go"
      refine ⟨numT m2, fun H3 s3 => ?_⟩
      replace ep := s3 _ _ ep
      have s13 := (s1.trans s2).trans s3
      walk_at "go"
      have lc : (sOf (numC c)).length ≤ 640 := by rw [sOf_len]; exact Nat.le_trans (numT m1).le (by decide)
      have lt' : (sOf (numC t)).length ≤ 640 := by rw [sOf_len]; exact Nat.le_trans (numT m2).le (by decide)
      refine ⟨sOf (numC c), (c : Int), rfl, of_decide_eq_true (by12 (t := 0) num_int0 m1 (by decide)), lc, ?_⟩
      walk_at "go"
      refine ⟨sOf (numC t), (t : Int), rfl, of_decide_eq_true (by12 (t := 0) num_int0 m2 (by decide)), lt', ?_⟩
      walk_at "go"
      exact (fun p2 np2 => q p2 _ (s13.trans (same_new (Same.refl _) np2)) (s13.free np2) upd_same)
    · refine ⟨rfl, by rw [sOf_len]; exact szl (by have := g.len; show _ ≤ 1000; omega), ?_⟩
      rw [of_decide_eq_true (Good.by g n1 n6 _ word_split0)]
      intro p np
      have s1 := same_new (o := .lst [.str (sOf l)]) (Same.refl H) np
      have ep : upd H p (.lst [.str (sOf l)]) p = _ := upd_same
      show gName 1 (.ref p) _ (upd H p (.lst [.str (sOf l)])) _
      walk_at "go"
      rw [show (!decide (V.int (([V.str (sOf l)].length : Nat) : Int) = V.int 3)) = true from rfl]
      walk_at "go"
      exact q _ s1
end

/-! ### the text of a card -/
/-- a Card of the words W (size n) with the marks N, in this order -/
def CardN (AD : Ads) (H : Hp) (a : Addr) (W : List (List Nat)) (N : List (Nat × Nat)) (n : Nat) : Prop := ∃ dx tc tw tm ys ms, H a = some (.ins AD.C_Card dx [("columns", .ref tc), ("size", .int (n : Nat)), ("width", .int (W.length : Nat)), ("words", .ref tw), ("marks", .ref tm)]) ∧
  H tc = some (.tup (refsV ys)) ∧ ColsAt AD.C_Column H ys W ∧ H tw = some (.tup (strsV W)) ∧ H tm = some (.tup ms) ∧ Prs H ms N
theorem CardAt.toN {AD : Ads} {H : Hp} {a : Addr} {W : List (List Nat)} {M : List (Nat × Nat)} {n : Nat} (h : CardAt AD H a W M n) : ∃ N, CardN AD H a W N n ∧ N.Perm M ∧ N.Pairwise lexLe := by
  obtain ⟨dx, tc, tw, tm, ys, ms, N, h1, h2, h3, h4, h5, h6, h7, h8⟩ := h
  exact ⟨N, ⟨dx, tc, tw, tm, ys, ms, h1, h2, h3, h4, h5, h6⟩, h7, h8⟩
section
variable {P : Program} {w : World} {K : PySem.W.Frag} {mg : Str → Option Value} {base : Heap} {AD : Ads}
def spCardText (AD : Ads) : Sp := fun vs H Q _ => ∃ (x : Addr) (W : List (List Nat)) (N : List (Nat × Nat)) (n : Nat), vs = [.ref x] ∧ CardN AD H x W N n ∧ W.length ≤ 12 ∧ N.length ≤ 200 ∧ (∀ m ∈ N, m.1 < 12 ∧ m.2 < 12) ∧ (∀ l ∈ W, l.length ≤ 12) ∧ ∀ H', Same H H' → Q (.str (txtOf W N)) H'
theorem ok_card_text (T : Top K mg AD) : FnOk P w K mg base CX0 2 AD.f_card_text AD.d_card_text P_card_text (spCardText AD) := by
  refine T.D_card_text.F.ok sc_card_text (fun vs H Q E h => ?_) (fun cdv A outer s H vs Q E hr h => ?_)
  · obtain ⟨x, W, N, n, rfl, _⟩ := h
    rfl
  · obtain ⟨x, W, N, n, rfl, ⟨dx, tc, tw, tm, ys, ms, ex, e1, cs, e2, e3, pr⟩, lW, lN, hM, hW, q⟩ := h
    have cl := T.cl_Card
    have n1 := T.n_Card_marks
    have n2 := T.n_Card_words
    refine ⟨_, (pss_cons (ps_setLc (i := 1) (own := [("c", 2), ("t", 3)]) (tt := tYes) rfl sc_card_text.nd rfl rfl (sw_true rfl rfl rfl (by decide +kernel)) (pi_tup (pe_fld (pv 0) rfl)) (blkOk_by (N := N_card_text) (sc := defScope s_card_text) (by decide +kernel)) (fun _ _ _ _ _ => (pg_tupK (K := K) (n := 2) (by rfl) (by rfl) (pgs_cons (pg_name (i := 2) sc_card_text.nd rfl (by first | exact Or.inl rfl | exact Or.inr rfl)) (pgs_cons (pg_name (i := 3) sc_card_text.nd rfl (by first | exact Or.inl rfl | exact Or.inr rfl)) pgs_nil)))) (fun _ _ _ _ _ => pts_nil) (fun _ _ _ _ _ => (pe_joinedD (.cons pe_str (.cons (pe_fmt (pv 2)) (.cons pe_str (.cons (pe_fmt (pv 3)) .nil)))))))
    (pss_one (ps_ret (pe_join pe_str (pe_lst (StX.pa_star (pe_fld (pv 0) rfl) (StX.pa_star (pv 1) pa_nil))))))), ?_⟩
    walk_at "go"
    refine ⟨⟨ms, SqT.of e3⟩, ?_⟩
    intro D hD
    refine lc_it (walk_tup (xs := ms)) (fun i H' => But D H H' ∧ H' D = some (.lst ((N.take i).map fun m => V.str (sOf (slitL m))))) ⟨But.upd (But.refl _ _), upd_same⟩ (fun i H' _ h => SqT.of (same_but (Same.refl _) hD h.1 _ _ e3)) ?_ ?_
    · rintro i z Hb Hc hi ⟨bt, eD⟩ ⟨rfl, ez⟩
      have sb := same_but (Same.refl _) hD bt
      obtain ⟨T0, m, rfl, em, eT⟩ := (pr.mono sb).at ez
      obtain ⟨m1, m2⟩ := hM m (List.mem_of_getElem? em)
      obtain ⟨c, t⟩ := m
      refine ⟨T0, [.int (c : Nat), .int (t : Nat)], rfl, SqT.of eT, rfl, _, _, rfl, _, _, rfl, rfl, ?_⟩
      have y1 := lenI5 m1
      have y2 := lenI5 m2
      have g1 : ("slit " : Str).length ≤ 5 := by decide +kernel
      have g2 : (" " : Str).length ≤ 1 := by decide +kernel
      have s0 : Str.empty.length ≤ 0 := Nat.le_refl 0
      have s1 := lenA5 s0 g1
      have s2 := lenA5 s1 y1.1
      have s3 := lenA5 s2 g2
      have s4 := lenA5 s3 y2.1
      have z : ∀ {k : Nat}, k ≤ 30 → k ≤ sizeLine := fun h => Nat.le_trans h (by decide)
      walk_at "go"
      refine ⟨z (Nat.le_trans s1 (by decide)), ?_⟩
      walk_at "go"
      refine .inr ⟨_, rfl, y1.2, _, rfl, z (Nat.le_trans s2 (by decide)), ?_⟩
      refine ⟨_, rfl, z (Nat.le_trans s3 (by decide)), ?_⟩
      walk_at "go"
      refine .inr ⟨_, rfl, y2.2, _, rfl, z (Nat.le_trans s4 (by decide)), ?_⟩
      refine ⟨_, eD, small1000 (by rw [List.length_map, List.length_take]; omega), But.upd bt, ?_⟩
      rw [upd_same, List.take_add_one, em, List.map_append]
      show some (HO.lst (_ ++ [V.str (fS c t)])) = _
      rw [of_decide_eq_true (by12 fS0 m1 m2)]
      rfl
    · rintro Hb ⟨bt, eD⟩
      have sb := same_but (Same.refl _) hD bt
      rw [pr.len, List.take_length] at eD
      have ex1 := sb _ _ ex
      have e21 := sb _ _ e2
      walk_at "go"
      refine ⟨tw, strsV W, rfl, .inl (SqT.of e21), ?_⟩
      walk_at "go"
      refine ⟨D, _, rfl, .inr (SqL.of eD), ?_⟩
      walk_at "go"
      have er : strsV W ++ (N.map (fun m => V.str (sOf (slitL m))) ++ []) = ((rowsL W N).map sOf).map V.str := by
        unfold rowsL strsV
        simp [Function.comp_def]
      have lr : (((rowsL W N).map sOf).map V.str).length = W.length + N.length := by rw [List.length_map, List.length_map, rowsL_len]
      show (strsV W ++ (N.map (fun m => V.str (sOf (slitL m))) ++ [])).length ≤ sizeLine ∧ _
      refine ⟨by rw [er]; exact szl (by show _ ≤ 1000; omega), fun p np => ?_⟩
      rw [er]
      show _
      refine ⟨nlS, p, (rowsL W N).map sOf, rfl, rfl, .inl (SqL.of upd_same), ?_, q _ (sb.trans (same_new (Same.refl _) np))⟩
      have h1 := sum12 _ (rows_short hM hW)
      rw [List.length_map, rowsL_len] at h1
      rw [List.length_map, rowsL_len, show nlS.length = 1 from rfl]
      omega
end

/-! ### faults of rows: none -/
theorem wf_good0 : allWords.all (fun l => decide (wfault l = none)) = true := by decide +kernel
theorem wf_good {l : List Nat} {n : Nat} (g : Good l n) (h1 : 1 ≤ n) (h6 : n ≤ 6) : wfault l = none := of_decide_eq_true (g.by h1 h6 _ wf_good0)
section
variable {P : Program} {w : World} {K : PySem.W.Frag} {mg : Str → Option Value} {base : Heap} {AD : Ads}
def spWrf : Sp := fun vs H Q _ => ∃ (pw ps : Addr) (l : List Nat) (W : List (List Nat)) (n : Nat), vs = [.str (sOf l), .ref pw, .ref ps] ∧ H pw = some (.lst (strsV W)) ∧ H ps = some (.lst []) ∧ Good l n ∧ GoodW W n ∧ 1 ≤ n ∧ n ≤ 6 ∧ W.length < 12 ∧ ∀ H', Same H H' → Q .non H'
theorem ok_word_row_fault (T : Top K mg AD) : FnOk P w K mg base CX0 4 AD.f_word_row_fault AD.d_word_row_fault P_word_row_fault (spWrf) := by
  refine T.D_word_row_fault.F.ok sc_word_row_fault (fun vs H Q E h => ?_) (fun cdv A outer s H vs Q E hr h => ?_)
  · obtain ⟨a, b, l, W, n, rfl, _⟩ := h
    rfl
  · obtain ⟨pw, ps, l, W, n, rfl, ew, es, g, gW, n1, n6, lW, q⟩ := h
    obtain ⟨_, hc_MOST_WIDTH⟩ := T.c_MOST_WIDTH
    refine ⟨_, (pss_cons (ps_if (pt_truth (pv 2) (by intro _; rfl))
    (pss_one (ps_ret (pe_s (x := Str.ofString "order") [111, 114, 100, 101, 114] (by decide +kernel))))
    pss_nil)
    (pss_cons (ps_set (i := 3) sc_word_row_fault.nd rfl (Or.inl rfl) (callD T.D_word_fault (ok_word_fault T) hr (pa_cons (pv 0) pa_nil)))
    (pss_cons (ps_if (pt_cmpR op_notN (pv 3) pe_non (nomark _))
    (pss_one (ps_ret (pv 3)))
    pss_nil)
    (pss_cons (ps_if (PW.pt (pw_and (pt_truth (pv 1) (by intro _; rfl)) (pw_and1 (pt_cmpR op_ne (pe_callB call_lenS (by rfl) T.b_len (by decide +kernel) (pa_cons (pv 0) pa_nil)) (pe_callB call_lenS (by rfl) T.b_len (by decide +kernel) (pa_cons (pe_ix (ix_listK (K := K) rfl) (pv 1) pe_int (fun _ _ => rfl)) pa_nil)) (nomark _)))))
    (pss_one (ps_ret (pe_s (x := Str.ofString "size") [115, 105, 122, 101] (by decide +kernel))))
    pss_nil)
    (pss_one (ps_ret (pe_ifExp (pt_cmpR op_ge (pe_callB (call_lenQ (K := K) rfl) (by rfl) T.b_len (by decide +kernel) (pa_cons (pv 1) pa_nil)) (pe_glob (v := .int 12) rfl hc_MOST_WIDTH ⟨_, rfl⟩) (nomark _)) (pe_s (x := Str.ofString "many") [109, 97, 110, 121] (by decide +kernel)) pe_non))))))), ?_⟩
    have gn : wfault l = none := wf_good g n1 n6
    have gl := g.len
    walk_at "go"
    refine ⟨_, .inl ⟨[], SqL.of es, rfl⟩, ?_⟩
    walk_at "go"
    refine .is ⟨_, rfl, .inl ⟨l, rfl, by omega, fun H1 s1 => ?_⟩⟩
    rw [gn]
    replace ew := s1 _ _ ew
    walk_at "go"
    refine ⟨_, .inl ⟨strsV W, SqL.of ew, rfl⟩, ?_⟩
    have lv := strsV_len W
    have fin : Q .non H1 := q _ s1
    cases hW : W with
    | nil =>
      rw [hW] at ew lv
      walk_at "go"
      rw [decide_eq_false (by rw [strsV_len]; decide)]
      exact fin
    | cons l0 W0 =>
      have g0 : Good l0 n := gW l0 (by rw [hW]; exact List.mem_cons_self)
      have gl0 := g0.len
      rw [hW] at ew lv
      walk_at "go"
      refine ⟨pw, _, 0, .str (sOf l0), rfl, rfl, SqL.of ew, atI_nat (j := 0) rfl, ?_⟩
      walk_at "go"
      rw [show l.length = l0.length by omega, not_same]
      walk_at "go"
      rw [decide_eq_false (by rw [lv, ← hW]; omega)]
      exact fin
theorem lex_no {m k : Nat × Nat} (h : k.1 < m.1 ∨ (k.1 = m.1 ∧ k.2 < m.2)) : Ob.lexAt (fun j => decide ([(m.1 : Int), (m.2 : Int)].getD j 0 = [(k.1 : Int), (k.2 : Int)].getD j 0)) (fun j => decide ([(m.1 : Int), (m.2 : Int)].getD j 0 ≤ [(k.1 : Int), (k.2 : Int)].getD j 0)) (decide (2 ≤ 2)) 0 2 = false := by
  show (if decide ((m.1 : Int) = k.1) = true then (if decide ((m.2 : Int) = k.2) = true then _ else decide ((m.2 : Int) ≤ k.2)) else decide ((m.1 : Int) ≤ k.1)) = false
  rcases h with h | ⟨h1, h2⟩
  · rw [decide_eq_false (by omega), if_neg Bool.false_ne_true]
    exact decide_eq_false (by omega)
  · rw [decide_eq_true (by omega), if_pos rfl, decide_eq_false (by omega), if_neg Bool.false_ne_true]
    exact decide_eq_false (by omega)
theorem last_at {H : Hp} {xs : List V} {N : List (Nat × Nat)} (pr : Prs H xs N) : xs = [] ∨ ∃ T0 k, atI xs (-1) = some (.ref T0) ∧ H T0 = some (mT k) ∧ N.getLast? = some k ∧ xs.isEmpty = false := by
  cases hx : xs with
  | nil => exact .inl rfl
  | cons x r =>
    right
    have hl := pr.len
    rw [hx, List.length_cons] at hl
    have hi : xs.length - 1 < xs.length := by rw [hx, List.length_cons]; omega
    obtain ⟨T0, k, e1, e2, e3⟩ := pr.at (i := xs.length - 1) (List.getElem?_eq_getElem hi)
    refine ⟨T0, k, ?_, e3, ?_, rfl⟩
    · rw [← hx]
      have hix : ixN xs.length (-1) = some (xs.length - 1) := by
        unfold ixN
        rw [if_neg (by decide), if_pos (by omega)]
        exact congrArg some (by omega)
      unfold atI
      rw [hix]
      exact (List.getElem?_eq_getElem hi).trans (congrArg some e1)
    · rw [List.getLast?_eq_getElem?, ← pr.len]
      exact e2
def spSrf : Sp := fun vs H Q _ => ∃ (T pw ps : Addr) (m : Nat × Nat) (W : List (List Nat)) (xs : List V) (N : List (Nat × Nat)) (n : Nat), vs = [.ref T, .ref pw, .ref ps] ∧ H T = some (mT m) ∧ H pw = some (.lst (strsV W)) ∧ H ps = some (.lst xs) ∧ Prs H xs N ∧ GoodW W n ∧ 1 ≤ n ∧ n ≤ 6 ∧ 1 ≤ W.length ∧ W.length ≤ 12 ∧
  (∀ k, N.getLast? = some k → k.1 < m.1 ∨ (k.1 = m.1 ∧ k.2 < m.2)) ∧ (m.1 + 2 ≤ W.length ∧ 1 ≤ m.2 ∧ m.2 + 2 ≤ 2 * n) ∧ ∀ H', Same H H' → Q .non H'
theorem ok_slit_row_fault (T : Top K mg AD) : FnOk P w K mg base CX0 4 AD.f_slit_row_fault AD.d_slit_row_fault P_slit_row_fault (spSrf) := by
  refine T.D_slit_row_fault.F.ok sc_slit_row_fault (fun vs H Q E h => ?_) (fun cdv A outer s H vs Q E hr h => ?_)
  · obtain ⟨a, b, c, m, W, xs, N, n, rfl, _⟩ := h
    rfl
  · obtain ⟨tm, pw, ps, m, W, xs, N, n, rfl, et, ew, es, pr, gW, n1, n6, lW, lW2, srt, ok, q⟩ := h
    refine ⟨_, (pss_cons (ps_if (PW.pt (pw_and (pt_truth (pv 2) (by intro _; rfl)) (pw_and1 (pt_cmpR (op_leT hr.units0) (pv 0) (pe_ix (ix_listK (K := K) rfl) (pv 2) (pe_un un_neg pe_int) (fun _ _ => rfl)) (nomark _)))))
    (pss_one (ps_ret (pe_s (x := Str.ofString "order") [111, 114, 100, 101, 114] (by decide +kernel))))
    pss_nil)
    (pss_cons (ps_if (pt_not (pt_truth (pv 1) (by intro _; rfl)))
    (pss_one (ps_ret (pe_s (x := Str.ofString "first") [102, 105, 114, 115, 116] (by decide +kernel))))
    pss_nil)
    (pss_one (ps_ret (pe_ifExp (pt_cmpR op_isN (callD T.D_mark_of (ok_mark_of T) hr (pa_cons (pv 0) (pa_cons (pe_op op_fdiv (pe_callB call_lenS (by rfl) T.b_len (by decide +kernel) (pa_cons (pe_ix (ix_listK (K := K) rfl) (pv 1) pe_int (fun _ _ => rfl)) pa_nil)) pe_int) (pa_cons (pe_callB (call_lenQ (K := K) rfl) (by rfl) T.b_len (by decide +kernel) (pa_cons (pv 1) pa_nil)) pa_nil)))) pe_non (nomark _)) (pe_s (x := Str.ofString "mark") [109, 97, 114, 107] (by decide +kernel)) pe_non))))), ?_⟩
    walk_at "go"
    refine ⟨_, .inl ⟨xs, SqL.of es, rfl⟩, ?_⟩
    have lv := strsV_len W
    obtain ⟨l0, W0, hW⟩ : ∃ l0 W0, W = l0 :: W0 := by
      cases W with
      | nil => exact absurd lW (by decide)
      | cons a b => exact ⟨a, b, rfl⟩
    have g0 : Good l0 n := gW l0 (by rw [hW]; exact List.mem_cons_self)
    have gl0 := g0.len
    have b0 : atI (strsV W) 0 = some (.str (sOf l0)) := by rw [hW]; exact atI_nat (j := 0) rfl
    have hc : xs = [] ∨ ∃ T0 k, atI xs (-1) = some (.ref T0) ∧ H T0 = some (mT k) ∧ N.getLast? = some k ∧ xs.isEmpty = false := last_at pr
    have hE : (strsV W).isEmpty = false := by rw [hW]; rfl
    rcases hc with rfl | ⟨T0, k, eT, ek, hk, hxs⟩
    rotate_left
    · rw [hxs]
      walk_at "go"
      refine ⟨ps, xs, -1, _, rfl, rfl, SqL.of es, eT, ?_⟩
      refine ⟨tm, T0, [(m.1 : Int), (m.2 : Int)], [(k.1 : Int), (k.2 : Int)], rfl, rfl, SqT.of et, SqT.of ek, ?_⟩
      rw [show Ob.lexAt (fun j => decide ([(m.1 : Int), (m.2 : Int)].getD j 0 = [(k.1 : Int), (k.2 : Int)].getD j 0)) (fun j => decide ([(m.1 : Int), (m.2 : Int)].getD j 0 ≤ [(k.1 : Int), (k.2 : Int)].getD j 0)) (decide ([(m.1 : Int), (m.2 : Int)].length ≤ [(k.1 : Int), (k.2 : Int)].length)) 0 (min [(m.1 : Int), (m.2 : Int)].length [(k.1 : Int), (k.2 : Int)].length) = false from lex_no (srt k hk)]
      walk_at "go"
      refine ⟨_, .inl ⟨strsV W, SqL.of ew, rfl⟩, ?_⟩
      rw [hE]
      walk_at "go"
      refine ⟨pw, _, 0, .str (sOf l0), rfl, rfl, SqL.of ew, b0, ?_⟩
      walk_at "go"
      refine ⟨tm, m, n, W.length, ?_, et, ok, fun p H' s' np ep => ?_⟩
      · show [V.ref tm, V.int (((l0.length : Nat) : Int) / 2), V.int (((strsV W).length : Nat) : Int)] = _
        rw [lv, show ((l0.length : Nat) : Int) / 2 = (n : Nat) by omega]
      walk_at "go"
      exact q _ s'
    · walk_at "go"
      refine ⟨_, .inl ⟨strsV W, SqL.of ew, rfl⟩, ?_⟩
      rw [hE]
      walk_at "go"
      refine ⟨pw, _, 0, .str (sOf l0), rfl, rfl, SqL.of ew, b0, ?_⟩
      walk_at "go"
      refine ⟨tm, m, n, W.length, ?_, et, ok, fun p H' s' np ep => ?_⟩
      · show [V.ref tm, V.int (((l0.length : Nat) : Int) / 2), V.int (((strsV W).length : Nat) : Int)] = _
        rw [lv, show ((l0.length : Nat) : Int) / 2 = (n : Nat) by omega]
      walk_at "go"
      exact q _ s'
end

/-! ### Card.of_words -/
section
variable {P : Program} {w : World} {K : PySem.W.Frag} {mg : Str → Option Value} {base : Heap} {AD : Ads}
def spOfWB (AD : Ads) : Sp := fun vs H Q _ => ∃ wt ml W xs M n, vs = [.ref AD.C_Card, .ref ml, .ref wt] ∧ H wt = some (.tup (strsV W)) ∧ GoodW W n ∧ (1 ≤ W.length ∧ W.length ≤ 12) ∧ (1 ≤ n ∧ n ≤ 6) ∧ H ml = some (.lst xs) ∧ Prs H xs M ∧ OkM M W.length n ∧
  ∀ x H', Same H H' → H x = none → CardAt AD H' x W M n → Q (.ref x) H'
def spOfW (AD : Ads) : V → Sp := fun v vs H Q E => ∃ c rest, vs = c :: rest ∧ rest.length ≤ sizeLine ∧ ∀ p, H p = Option.none → spOfWB AD [c, v, V.ref p] (upd H p (.tup rest)) Q E
theorem okK_Card_of_words (T : Top K mg AD) : FnK1 P w K mg base (L2.CX P w) 9 AD.f_Card_of_words "marks" (spOfW AD) := by
  refine T.D_Card_of_words.fnK (N := N_Card_of_words) (sp := spOfWB AD) sc_Card_of_words StX.cxUp ?_ ?_
  · intro D doc pm an cdv ct c m rest
    cases rest <;> rfl
  · intro cdv A outer s H vs Q E hr h
    obtain ⟨wt, ml, W, xs, M, n, rfl, ewk0, gW, ⟨w1, w12⟩, ⟨n1, n6⟩, em, hM, ok, q⟩ := h
    refine ⟨_, (pss_cons (ps_setLc (i := 3) (own := [("word", 4)]) (g := (gName 4)) (tt := tYes) rfl sc_Card_of_words.nd rfl rfl (sw_true rfl rfl rfl (by decide +kernel)) (pi_tup (pv 2)) (blkOk_by (N := N_Card_of_words) (sc := defScope s_Card_of_words) (by decide +kernel)) (fun _ _ _ _ _ => (pg_name (i := 4) sc_Card_of_words.nd rfl (by first | exact Or.inl rfl | exact Or.inr rfl))) (fun _ _ _ _ _ => pts_nil) (fun _ _ _ _ _ => (pe_makeS (E := fun _ => E0) T.mk_Column (ok_Column___init__ T) (hr.mono (by decide)) (by rfl) T.g_Column T.D_Column___init__.b (fun σ => passAt takes0 σ) (pa_cons (pv 4) pa_nil))))
    (pss_one (ps_ret (pe_makeLS (E := fun _ => E0) 0 T.mk_Card (ok_Card___init__ T) (hr.mono (by decide)) T.D_Card___init__.b (fun σ => passAt takes0 σ) (pa_cons (pv 3) (pa_cons (pv 1) pa_nil)))))), ?_⟩
    have ewk : H wt = some (.tup (strsV W)) ∧ True := ⟨ewk0, trivial⟩
    clear ewk0
    walk_at "go"
    refine ⟨⟨_, SqT.of ewk.1⟩, ?_⟩
    intro D hD
    refine lc_it (walk_tup (xs := strsV W)) (fun i H' => ∃ ys, But D H H' ∧ H' D = some (.lst (refsV ys)) ∧ ColsAt AD.C_Column H' ys (W.take i)) ⟨[], But.upd (But.refl _ _), upd_same, by rw [List.take_zero]; exact .nil⟩
      (fun i H' hi ⟨_, b, _⟩ => SqT.of (same_but (Same.refl _) hD b _ _ ewk.1)) ?_ ?_
    · rintro i z Ha Hb hi ⟨ys, b2, e2, cs⟩ ⟨rfl, ez⟩
      obtain ⟨l, hl, rfl⟩ : ∃ l, W[i]? = some l ∧ z = .str (sOf l) := by
        unfold strsV at ez
        rw [List.getElem?_map] at ez
        cases h : W[i]? with
        | none => rw [h] at ez; cases ez
        | some l => rw [h] at ez; exact ⟨l, rfl, (Option.some.inj ez).symm⟩
      have gl := gW.at hl
      have ll := gl.len
      have yl := cs.len
      have tl := List.length_take_le' i W
      walk_at "go"
      refine fun y dy ny ndy ne => col_made (good_fault gl n1 n6) (by omega) ny ndy ne fun H3 s3 c3 => ?_
      have e3 := s3 _ _ e2
      refine ⟨_, e3, small1000 (by rw [refsV_len]; omega), ys ++ [y], But.upd fun b o nb h => s3 b o (b2 b o nb h), ?_, ?_⟩
      · rw [upd_same]
        simp [refsV]
      · rw [List.take_add_one, hl]
        refine ColsAt.but (x := D) (fun l ⟨d, z⟩ => by rw [e3] at z; cases z) (H := H3) (fun b o nb h => (upd_ne nb).trans h) ?_
        exact ColsAt.snoc c3 (cs.mono s3)
    · rintro H2 ⟨ys, b2, e2, cs⟩
      rw [strsV_len, List.take_length] at cs
      have s2 := same_but (Same.refl _) hD b2
      walk_at "go"
      intro x dx nx ndx ne
      have s3 : Same H2 (upd (upd H2 dx (.own x)) x (.ins AD.C_Card dx [])) := same_new (same_new (Same.refl H2) ndx) ((upd_ne (Ne.symm ne)).trans nx)
      refine ⟨x, dx, D, ys, W, ml, xs, M, n, rfl, upd_same, s3 _ _ e2, cs.mono s3, gW, ⟨w1, w12⟩, ⟨n1, n6⟩, s3 _ _ (s2 _ _ em), (hM.mono s2).mono s3, ok, fun H' b3 c3 => ⟨rfl, ?_⟩⟩
      exact q x H' (fun b o e => b3 b o (ne_of_none (s2 _ _ e) nx) (s3 _ _ (s2 _ _ e))) (s2.free nx) c3
end

/-! ### draws, the list of cells known -/
def HandL (H : Hp) (a l : Addr) : Prop := ∃ (cells : List Int) (pos pend tot : Int), H a = some (.lst [.ref l, .int pos, .int pend, .int tot]) ∧ H l = some (.lst (cells.map V.int)) ∧
  (0 ≤ pos ∧ pos ≤ 63) ∧ cells.length ≤ 63 ∧ (∀ c ∈ cells, 0 ≤ c) ∧ 0 ≤ pend ∧ (0 ≤ tot ∧ tot < 2147483629)
theorem HandL.mk {H H' : Hp} {a l : Addr} {cells : List Int} {pos pend tot : Int} (hal : a ≠ l) (el : H l = some (.lst (cells.map V.int))) (b : But a H H') (ea : H' a = some (.lst [.ref l, .int pos, .int pend, .int tot])) (hp : 0 ≤ pos ∧ pos ≤ 63) (hl : cells.length ≤ 63) (hc : ∀ c ∈ cells, 0 ≤ c) (hpe : 0 ≤ pend) (ht : 0 ≤ tot ∧ tot < 2147483629) : HandL H' a l :=
  ⟨cells, pos, pend, tot, ea, b l _ (Ne.symm hal) el, hp, hl, hc, hpe, ht⟩
theorem HandL.ok {H : Hp} {a l : Addr} (h : HandL H a l) : HandOk H a := let ⟨c, p, q, r, z⟩ := h; ⟨l, c, p, q, r, z⟩
theorem HandOk.at {H : Hp} {a : Addr} (h : HandOk H a) : ∃ l, HandL H a l := let ⟨l, c, p, q, r, z⟩ := h; ⟨l, c, p, q, r, z⟩
theorem HandL.same {H H' : Hp} {a l : Addr} (h : HandL H a l) (s : Same H H') : HandL H' a l := let ⟨cs, p, q, r, e, e2, z⟩ := h; ⟨cs, p, q, r, s _ _ e, s _ _ e2, z⟩
theorem HandL.some2 {H : Hp} {a l : Addr} (h : HandL H a l) : ∃ o, H l = Option.some o := let ⟨_, _, _, _, _, e, _⟩ := h; ⟨_, e⟩
/-- another object changes -/
theorem HandL.keep {H H' : Hp} {a l b : Addr} (h : HandL H a l) (n1 : b ≠ a) (n2 : b ≠ l) (k : But b H H') : HandL H' a l := let ⟨cs, p, q, r, e, e2, z⟩ := h; ⟨cs, p, q, r, k _ _ (Ne.symm n1) e, k _ _ (Ne.symm n2) e2, z⟩
section
variable {P : Program} {w : World} {K : PySem.W.Frag} {mg : Str → Option Value} {base : Heap} {AD : Ads}
def spDrawL : Sp := fun vs H Q _ => ∃ (a : Addr) (m : Int) (l : Addr), vs = [.ref a, .int m] ∧ HandL H a l ∧ CDivW 0 m ∧ ∀ (d : Int) H', 0 ≤ d → d < m → But a H H' → HandL H' a l → Q (.int d) H'
/-! the rest of a draw: from the pending number on -/
set_option hygiene false in
local macro_rules | `(tactic| walk_at "tail2") => `(tactic| (
    walk_at "go"
    refine ite2 (fun e => ?_) (fun e => ?_)
    · have e0 := of_decide_eq_true e
      walk_at "go"
      refine And.intro hm ?_
      walk_at "go"
      refine And.intro hm.1 ?_
      refine q _ _ (Int.emod_nonneg _ (by have := hm.1; omega)) (Int.emod_lt_of_pos _ hm.1) (But.upd hb) (HandL.mk hal el (But.upd hb) upd_same hp hl hc (Int.ediv_nonneg (by omega) (by have := hm.1; omega)) ht)
    · walk_at "go"
      refine ⟨_, _, rfl, ⟨by omega, by omega⟩, ⟨by omega, by omega⟩, fun r hr0 => ?_⟩
      walk_at "go"
      refine And.intro hm.1 ?_
      refine q _ _ (Int.emod_nonneg _ (by have := hm.1; omega)) (Int.emod_lt_of_pos _ hm.1) (But.upd hb) (HandL.mk hal el (But.upd hb) upd_same hp hl hc (by omega) (by omega))))

theorem ok_l_drawL (T : Top K mg AD) : FnOk P w K mg base CX0 2 AD.f_l_draw AD.d_l_draw P_l_draw spDrawL := by
  refine T.D_l_draw.F.ok sc_l_draw (fun vs H Q E h => ?_) (fun cdv A outer s H vs Q E hr h => ?_)
  · obtain ⟨n, t, l, rfl, _⟩ := h
    rfl
  · obtain ⟨a, m, l, rfl, hh, hm, q⟩ := h
    refine ⟨_, (pss_cons (ps_if (PW.pt (pw_and (pt_cmpR op_eq (pe_ix (ix_listK (K := K) rfl) (pv 0) pe_int (fun _ _ => rfl)) pe_int (nomark _)) (pw_and1 (pt_cmpR op_lt (pe_ix (ix_listK (K := K) rfl) (pv 0) pe_int (fun _ _ => rfl)) (pe_callB (call_lenQ (K := K) rfl) (by rfl) T.b_len (by decide +kernel) (pa_cons (pe_ix (ix_listK (K := K) rfl) (pv 0) pe_int (fun _ _ => rfl)) pa_nil)) (nomark _)))))
    (pss_cons (ps_set (i := 2) sc_l_draw.nd rfl (Or.inl rfl) (pe_ix (ix_listK (K := K) rfl) (pe_ix (ix_listK (K := K) rfl) (pv 0) pe_int (fun _ _ => rfl)) (pe_ix (ix_listK (K := K) rfl) (pv 0) pe_int (fun _ _ => rfl)) (fun _ _ => rfl)))
    (pss_cons (ps_asg (pe_op op_add (pe_ix (ix_listK (K := K) rfl) (pv 0) pe_int (fun _ _ => rfl)) pe_int) (pg_sub (pv 0) pe_int set_list))
    (pss_cons (ps_if (pt_cmpR op_lt (pv 2) (pe_op op_pow pe_int pe_int) (nomark _))
    (pss_one (ps_ret (pe_op op_mod (pe_callTy call_int1 (by rfl) T.b_int (by decide +kernel) (pa_cons (callD T.D_l_mix (ok_l_mix T) hr (pa_cons (pe_op op_mod (pe_callTy call_int1 (by rfl) T.b_int (by decide +kernel) (pa_cons (pv 2) pa_nil)) pe_int) (pa_cons (pe_ix (ix_listK (K := K) rfl) (pv 0) pe_int (fun _ _ => rfl)) pa_nil))) pa_nil)) (pv 1))))
    pss_nil)
    (pss_one (ps_asg (pv 2) (pg_sub (pv 0) pe_int set_list))))))
    pss_nil)
    (pss_cons (ps_if (pt_cmpR op_gt (pe_ix (ix_listK (K := K) rfl) (pv 0) pe_int (fun _ _ => rfl)) pe_int (nomark _))
    (pss_cons (ps_set (i := 3) sc_l_draw.nd rfl (Or.inl rfl) (pe_ix (ix_listK (K := K) rfl) (pv 0) pe_int (fun _ _ => rfl)))
    (pss_cons (ps_asg (pe_op op_fdivW (pv 3) (pv 1)) (pg_sub (pv 0) pe_int set_list))
    (pss_one (ps_ret (pe_op op_mod (pe_callTy call_int1 (by rfl) T.b_int (by decide +kernel) (pa_cons (pv 3) pa_nil)) (pv 1))))))
    pss_nil)
    (pss_cons (ps_asg (pe_op op_mod (pe_callTy call_int1 (by rfl) T.b_int (by decide +kernel) (pa_cons (pe_op op_add (pe_ix (ix_listK (K := K) rfl) (pv 0) pe_int (fun _ _ => rfl)) pe_int) pa_nil)) pe_int) (pg_sub (pv 0) pe_int set_list))
    (pss_one (ps_ret (pe_op op_mod (pe_callTy call_int1 (by rfl) T.b_int (by decide +kernel) (pa_cons (callD T.D_l_mix (ok_l_mix T) hr (pa_cons (pe_ix (ix_listK (K := K) rfl) (pv 0) pe_int (fun _ _ => rfl)) (pa_cons (pe_ix (ix_listK (K := K) rfl) (pv 0) pe_int (fun _ _ => rfl)) pa_nil))) pa_nil)) (pv 1))))))), ?_⟩
    obtain ⟨cells, pos, pend, tot, ea, el, hp, hl, hc, hpe, ht⟩ := id hh
    have hal : a ≠ l := by
      intro e
      subst e
      rw [ea] at el
      cases cells with
      | nil => cases el
      | cons c r => cases el
    obtain ⟨cn, hcn⟩ : ∃ cn : Nat, pos = (cn : Int) := ⟨pos.toNat, by omega⟩
    subst hcn
    walk_at "go"
    refine ite2 (fun e => ?_) (fun e => ?_)
    · have e0 : pend = 0 := V.int.inj (of_decide_eq_true e)
      subst e0
      walk_at "go"
      refine ite2 (fun e2 => ?_) (fun e2 => ?_)
      · have e3 := of_decide_eq_true e2
        rw [List.length_map] at e3
        have e4 : cn < cells.length := by omega
        have hce : 0 ≤ cells[cn] := hc _ (List.getElem_mem e4)
        walk_at "go"
        refine ⟨_, _, _, _, rfl, rfl, SqL.of el, atI_nat (j := cn) (v := .int cells[cn]) (by simp [e4]), ?_⟩
        walk_at "go"
        refine ite2 (fun e5 => ?_) (fun e5 => ?_)
        · walk_at "go"
          refine ⟨_, _, rfl, ⟨by omega, by omega⟩, ⟨by omega, by omega⟩, fun r hr0 => ?_⟩
          walk_at "go"
          refine And.intro hm.1 ?_
          exact q _ _ (Int.emod_nonneg _ (by have := hm.1; omega)) (Int.emod_lt_of_pos _ hm.1) (But.upd (But.refl a H)) (HandL.mk hal el (But.upd (But.refl a H)) upd_same ⟨by omega, by omega⟩ hl hc (by omega) ht)
        · walk_at "go"
          have hb : But a H (upd (upd H a (.lst [.ref l, .int (cn + 1), .int 0, .int tot])) a (.lst [.ref l, .int (cn + 1), .int cells[cn], .int tot])) := But.upd (But.upd (But.refl a H))
          have hp' : 0 ≤ (cn : Int) + 1 ∧ (cn : Int) + 1 ≤ 63 := ⟨by omega, by omega⟩
          clear hp
          have hp := hp'
          walk_at "tail2"
      · have hb := But.refl a H
        walk_at "go"
        refine ⟨_, _, rfl, ⟨by omega, by omega⟩, ⟨by omega, by omega⟩, fun r hr0 => ?_⟩
        walk_at "go"
        refine And.intro hm.1 ?_
        refine q _ _ (Int.emod_nonneg _ (by have := hm.1; omega)) (Int.emod_lt_of_pos _ hm.1) (But.upd hb) (HandL.mk hal el (But.upd hb) upd_same hp hl hc (by omega) (by omega))
    · have hb := But.refl a H
      walk_at "tail2"

end

/-! ### words drawn: the hand's list stays where it stands -/
section
variable {P : Program} {w : World} {K : PySem.W.Frag} {mg : Str → Option Value} {base : Heap} {AD : Ads}
def spWordL : Sp := fun vs H Q _ => ∃ (a : Addr) (n : Nat) (cl : Addr), vs = [.ref a, .int n] ∧ (1 ≤ n ∧ n ≤ 6) ∧ HandL H a cl ∧ ∀ l H', Good l n → But a H H' → HandL H' a cl → Q (.str (sOf l)) H'
theorem ok_l_wordL (T : Top K mg AD) : FnOk P w K mg base CX0 3 AD.f_l_word AD.d_l_word P_l_word spWordL := by
  refine T.D_l_word.F.ok sc_l_word (fun vs H Q E h => ?_) (fun cdv A outer s H vs Q E hr h => ?_)
  · obtain ⟨n, t, cl, rfl, _⟩ := h
    rfl
  · obtain ⟨a, n, cl, rfl, hn, hh, q⟩ := h
    refine ⟨_, (pss_cons (ps_set (i := 2) sc_l_word.nd rfl (Or.inl rfl) (pe_s (x := Str.ofString "") [] (by decide +kernel)))
    (pss_cons (ps_set (i := 3) sc_l_word.nd rfl (Or.inl rfl) pe_int)
    (pss_cons (ps_for PassesOwn.never rfl (pi_range1 (by rfl) T.b_range (pa_cons (pe_op op_mul pe_int (pv 1)) pa_nil)) (pg_name (i := 4) sc_l_word.nd rfl (Or.inl rfl))
    (pss_cons (ps_set (i := 5) sc_l_word.nd rfl (Or.inl rfl) (pe_cmpR op_gt (pv 3) pe_int (nomark _)))
    (pss_cons (ps_set (i := 6) sc_l_word.nd rfl (Or.inl rfl) (pe_cmpR op_lt (pe_m1 PySem.F.slot_str_count PySem.F.type_str_count mt_countS (pv 2) (pe_s (x := Str.ofString "d") [100] (by decide +kernel))) (pv 1) (nomark _)))
    (pss_one (ps_if (PW.pt (pw_and (pt_val (pv 6)) (pw_and1 (PW.pt (pw_or (pt_not (pt_val (pv 5))) (pw_or1 (pt_cmpR op_eq (callD T.D_l_draw (ok_l_drawL T) hr (pa_cons (pv 0) (pa_cons pe_int pa_nil))) pe_int (nomark _))))))))
    (pss_cons (ps_set (i := 2) sc_l_word.nd rfl (Or.inl rfl) (pe_op op_addS (pv 2) (pe_s (x := Str.ofString "d") [100] (by decide +kernel))))
    (pss_one (ps_set (i := 3) sc_l_word.nd rfl (Or.inl rfl) (pe_op op_add (pv 3) pe_int))))
    (pss_cons (ps_set (i := 2) sc_l_word.nd rfl (Or.inl rfl) (pe_op op_addS (pv 2) (pe_s (x := Str.ofString "o") [111] (by decide +kernel))))
    (pss_one (ps_set (i := 3) sc_l_word.nd rfl (Or.inl rfl) (pe_op op_sub (pv 3) pe_int)))))))))
    (pss_one (ps_ret (pv 2)))))), ?_⟩
    walk_at "go"
    refine for_it (walk_range (lo := 0) (n := (2 * (n : Int)).toNat)) (fun i σ H' => ∃ (l : List Nat) (o4 o5 o6 : Option V), σ = [some (.ref a), some (.int n), some (.str (sOf l)), some (.int ((l.count 100 : Int) - l.count 111)), o4, o5, o6] ∧ Part l n ∧ l.length = i ∧ But a H H' ∧ HandL H' a cl)
      ⟨[], none, none, none, rfl, Part.nil n, rfl, But.refl a H, hh⟩ (fun _ _ _ _ _ => trivial) ?_ ?_
    · rintro i x σ H1 H2 hi ⟨l, o4, o5, o6, rfl, pl, ll, hb, hh1⟩ ⟨rfl, rfl⟩
      have cnt := ltr_count pl.ltr
      have ple := pl.le
      have c100 := pl.cnt
      have pl' := pl
      walk_at "go"
      refine ite2 (fun e1 => ?_) (fun e1 => ?_)
      · have f1 := of_decide_eq_true e1
        walk_at "go"
        refine ite2 (fun e2 => ?_) (fun e2 => ?_)
        · walk_at "go"
          exact ⟨l ++ [100], _, _, _, by rw [cnt_d]; rfl, pl.snoc (.inl ⟨rfl, by omega⟩), by simp [ll], hb, hh1⟩
        · have f2 : (0 : Int) < (l.count 100 : Int) - l.count 111 := by simpa using e2
          walk_at "go"
          refine ⟨_, _, cl, rfl, hh1, cdivw (by decide) (by decide), fun d H3 hd0 hd1 hb3 hh3 => ?_⟩
          walk_at "go"
          refine ite2 (fun e3 => ?_) (fun e3 => ?_)
          · walk_at "go"
            exact ⟨l ++ [100], _, _, _, by rw [cnt_d]; rfl, pl.snoc (.inl ⟨rfl, by omega⟩), by simp [ll], hb.trans hb3, hh3⟩
          · walk_at "go"
            exact ⟨l ++ [111], _, _, _, by rw [cnt_o]; rfl, pl.snoc (.inr ⟨rfl, by omega⟩), by simp [ll], hb.trans hb3, hh3⟩
      · have f1 : ¬ ((l.count 100 : Nat) : Int) < n := fun z => e1 (decide_eq_true z)
        walk_at "go"
        exact ⟨l ++ [111], _, _, _, by rw [cnt_o]; rfl, pl.snoc (.inr ⟨rfl, by omega⟩), by simp [ll], hb, hh1⟩
    · rintro σ H1 ⟨l, o4, o5, o6, rfl, pl, ll, hb, hh1⟩
      walk_at "go"
      exact q _ _ (pl.good (by omega)) hb hh1
def spNearL : Sp := fun vs H Q _ => ∃ a l n cl, vs = [.ref a, .str (sOf l)] ∧ HandL H a cl ∧ Good l n ∧ (1 ≤ n ∧ n ≤ 6) ∧ ∀ m H', Good m n → But a H H' → HandL H' a cl → Q (.str (sOf m)) H'
theorem ok_l_nearL (T : Top K mg AD) : FnOk P w K mg base CX0 3 AD.f_l_near AD.d_l_near P_l_near spNearL := by
  refine T.D_l_near.F.ok sc_l_near (fun vs H Q E h => ?_) (fun cdv A outer s H vs Q E hr h => ?_)
  · obtain ⟨a, l, n, cl, rfl, _⟩ := h
    rfl
  · obtain ⟨a, l, n, cl, rfl, hd, g, ⟨n1, n6⟩, q⟩ := h
    have gl := g.len
    refine ⟨_, (pss_cons (ps_set (i := 2) sc_l_near.nd rfl (Or.inl rfl) (pe_op op_add pe_int (callD T.D_l_draw (ok_l_drawL T) hr (pa_cons (pv 0) (pa_cons (pe_op op_sub (pe_callB call_lenS (by rfl) T.b_len (by decide +kernel) (pa_cons (pv 1) pa_nil)) pe_int) pa_nil)))))
    (pss_cons (ps_if (pt_cmpR op_eq (pe_ix ix_S (pv 1) (pe_op op_sub (pv 2) pe_int) (fun _ _ => rfl)) (pe_ix ix_S (pv 1) (pv 2) (fun _ _ => rfl)) (nomark _))
    (pss_one (ps_ret (pv 1)))
    pss_nil)
    (pss_cons (ps_set (i := 3) sc_l_near.nd rfl (Or.inl rfl) (pe_op op_addS (pe_op op_addS (pe_op op_addS (pe_slice sl_S (pv 1) po_none (po_some (pe_op op_sub (pv 2) pe_int))) (pe_ix ix_S (pv 1) (pv 2) (fun _ _ => rfl))) (pe_ix ix_S (pv 1) (pe_op op_sub (pv 2) pe_int) (fun _ _ => rfl))) (pe_slice sl_S (pv 1) (po_some (pe_op op_add (pv 2) pe_int)) po_none)))
    (pss_cons (ps_set (i := 4) sc_l_near.nd rfl (Or.inl rfl) pe_int)
    (pss_cons (ps_for PassesOwn.never rfl (pi_str (pv 3)) (pg_name (i := 5) sc_l_near.nd rfl (Or.inl rfl))
    (pss_cons (ps_set (i := 4) sc_l_near.nd rfl (Or.inl rfl) (pe_op op_add (pv 4) (pe_ifExp (pt_cmpR op_eq (pv 5) (pe_s (x := Str.ofString "d") [100] (by decide +kernel)) (nomark _)) pe_int (pe_un un_neg pe_int))))
    (pss_one (ps_if (pt_cmpR op_lt (pv 4) pe_int (nomark _))
    (pss_one (ps_ret (pv 1)))
    pss_nil))))
    (pss_one (ps_ret (pv 3)))))))), ?_⟩
    walk_at "go"
    refine ⟨_, _, cl, rfl, hd, cdivw (by omega) (by omega), fun d H1 d0 d1 b1 hd1 => ?_⟩
    obtain ⟨j, rfl⟩ := Int.eq_ofNat_of_zero_le d0
    have j1 : j + 1 < l.length := by omega
    have g0 : l[j]? = some l[j] := List.getElem?_eq_getElem (by omega)
    have g1 : l[j + 1]? = some l[j + 1] := List.getElem?_eq_getElem j1
    have e0 : atI l (1 + (j : Int) - 1) = some l[j] := by rw [show 1 + (j : Int) - 1 = (j : Int) by omega]; exact atI_nat g0
    have e1 : atI l (1 + (j : Int)) = some l[j + 1] := by rw [show 1 + (j : Int) = ((j + 1 : Nat) : Int) by omega]; exact atI_nat g1
    walk_at "go"
    refine ⟨l, _, _, rfl, rfl, by omega, e0, ?_⟩
    walk_at "go"
    refine ⟨l, _, _, rfl, rfl, by omega, e1, ?_⟩
    walk_at "go"
    refine ite2 (fun e => ?_) (fun e => ?_)
    · walk_at "go"
      exact q l _ g b1 hd1
    have c1 := cutN_len l none (some (1 + (j : Int) - 1))
    have c2 := cutN_len l (some (1 + (j : Int) + 1)) none
    walk_at "go"
    refine ⟨l, _, _, rfl, rfl, by omega, e1, ?_⟩
    walk_at "go"
    refine ⟨l, _, _, rfl, rfl, by omega, e0, ?_⟩
    walk_at "go"
    have es : cutN l none (some (1 + (j : Int) - 1)) ++ [l[j + 1]] ++ [l[j]] ++ cutN l (some (1 + (j : Int) + 1)) none = swp l j l[j] l[j + 1] := by
      unfold swp
      rw [cutN_take l (by omega), cutN_drop l (by omega), show (1 + (j : Int) - 1).toNat = j by omega, show (1 + (j : Int) + 1).toNat = j + 2 by omega]
    rw [es]
    have ml := swp_len g0 g1
    have mt := swp_ltr g0 g1 g.ltr
    have mc := swp_count g0 g1 100
    generalize swp l j l[j] l[j + 1] = m at ml mt mc ⊢
    refine for_it walk_S (fun i σ H' => ∃ o5 : Option V, σ = [some (.ref a), some (.str (sOf l)), some (.int (1 + (j : Int))), some (.str (sOf m)), some (.int (ht m i)), o5] ∧ H' = H1 ∧ ∀ k, k ≤ i → 0 ≤ ht m k)
      ⟨none, by rw [ht_zero]; rfl, rfl, fun k hk => by
        obtain rfl : k = 0 := by omega
        rw [ht_zero]
        exact Int.le_refl 0⟩ (fun _ _ _ _ _ => trivial) ?_ ?_
    · rintro i x σ H2 H3 hi ⟨o5, rfl, rfl, up⟩ ⟨rfl, c, hc, rfl⟩
      have hcl := mt c (List.mem_of_getElem? hc)
      have st := ht_step hc hcl
      have more : 0 ≤ ht m (i + 1) → ∀ k, k ≤ i + 1 → 0 ≤ ht m k := fun z k hk => by
        by_cases e : k ≤ i
        · exact up k e
        · obtain rfl : k = i + 1 := by omega
          exact z
      walk_at "go"
      refine ite2 (fun e3 => ?_) (fun e3 => ?_)
      · have ec : c = 100 := by simpa using sOf_inj.mp (V.str.inj (of_decide_eq_true e3))
        rw [if_pos ec] at st
        walk_at "go"
        refine ite2 (fun e4 => ?_) (fun e4 => ?_)
        · walk_at "go"
          exact q l _ g b1 hd1
        · have z : ¬ ht m i + 1 < 0 := fun z => e4 (decide_eq_true z)
          walk_at "go"
          exact ⟨_, by rw [← st]; rfl, rfl, more (by omega)⟩
      · have ec : ¬ c = 100 := fun z => e3 (by rw [z]; exact decide_eq_true rfl)
        rw [if_neg ec] at st
        walk_at "go"
        refine ite2 (fun e4 => ?_) (fun e4 => ?_)
        · walk_at "go"
          exact q l _ g b1 hd1
        · have z : ¬ ht m i + -1 < 0 := fun z => e4 (decide_eq_true z)
          walk_at "go"
          exact ⟨_, by rw [← st]; rfl, rfl, more (by omega)⟩
    · rintro σ H2 ⟨o5, rfl, rfl, up⟩
      walk_at "go"
      exact q m _ (good_of (by omega) (by rw [mc]; exact g.cnt) mt up) b1 hd1
def spWordsL : Sp := fun vs H Q _ => ∃ (a : Addr) (n m : Nat) (cl : Addr), vs = [.ref a, .int n, .int m] ∧ (1 ≤ n ∧ n ≤ 6) ∧ (1 ≤ m ∧ m ≤ 12) ∧ HandL H a cl ∧ ∀ q W H', GoodW W n → W.length = m → But a H H' → HandL H' a cl → H q = none → H' q = some (.lst (strsV W)) → Q (.ref q) H'
theorem ok_l_wordsL (T : Top K mg AD) : FnOk P w K mg base CX0 4 AD.f_l_words AD.d_l_words P_l_words spWordsL := by
  refine T.D_l_words.F.ok sc_l_words (fun vs H Q E h => ?_) (fun cdv A outer s H vs Q E hr h => ?_)
  · obtain ⟨a, n, m, cl, rfl, _⟩ := h
    rfl
  · obtain ⟨p, n, m, cl, rfl, hn, hm, hd, q⟩ := h
    refine ⟨_, (pss_cons (ps_set (i := 3) sc_l_words.nd rfl (Or.inl rfl) (pe_lst (pa_cons (callD T.D_l_word (ok_l_wordL T) hr (pa_cons (pv 0) (pa_cons (pv 1) pa_nil))) pa_nil)))
    (pss_cons (ps_for PassesOwn.never rfl (pi_range2 (by rfl) T.b_range (pa_cons pe_int (pa_cons (pv 2) pa_nil))) (pg_name (i := 4) sc_l_words.nd rfl (Or.inl rfl))
    (pss_cons (ps_set (i := 5) sc_l_words.nd rfl (Or.inl rfl) (callD T.D_l_draw (ok_l_drawL T) hr (pa_cons (pv 0) (pa_cons pe_int pa_nil))))
    (pss_one (ps_if (pt_cmpR op_eq (pv 5) pe_int (nomark _))
    (pss_one (ps_expr (pe_bm PySem.F.plainAttrs_list PySem.F.slot_list_append PySem.F.type_list_append mt_append (pv 3) (pa_cons (callD T.D_l_word (ok_l_wordL T) hr (pa_cons (pv 0) (pa_cons (pv 1) pa_nil))) pa_nil))))
    (pss_one (ps_if (pt_cmpR op_eq (pv 5) pe_int (nomark _))
    (pss_one (ps_expr (pe_bm PySem.F.plainAttrs_list PySem.F.slot_list_append PySem.F.type_list_append mt_append (pv 3) (pa_cons (pe_ix (ix_listK (K := K) rfl) (pv 3) (pe_op op_sub (pv 4) pe_int) (fun _ _ => rfl)) pa_nil))))
    (pss_one (ps_expr (pe_bm PySem.F.plainAttrs_list PySem.F.slot_list_append PySem.F.type_list_append mt_append (pv 3) (pa_cons (callD T.D_l_near (ok_l_nearL T) hr (pa_cons (pv 0) (pa_cons (pe_ix (ix_listK (K := K) rfl) (pv 3) (pe_op op_sub (pv 4) pe_int) (fun _ _ => rfl)) pa_nil))) pa_nil))))))))))
    (pss_one (ps_ret (pv 3))))), ?_⟩
    walk_at "go"
    refine ⟨p, n, cl, rfl, hn, hd, fun l1 H1 g1 b1 hd1 => ?_⟩
    walk_at "go"
    refine ⟨szl (by show 1 ≤ 1000; decide), fun r nr => ?_⟩
    have rp := hd1.ok.ne nr
    obtain ⟨oc, hoc⟩ := hd1.some2
    have rcl : r ≠ cl := fun z => by rw [z, hoc] at nr; cases nr
    clear hoc
    have nr0 : H r = none := by
      cases h : H r with
      | none => rfl
      | some o => rw [b1 _ _ rp h] at nr; cases nr
    have s := same_new (o := .lst [.str (sOf l1)]) (Same.refl H1) nr
    have er : upd H1 r (.lst [.str (sOf l1)]) r = some (.lst (strsV [l1])) := upd_same
    replace hd1 := hd1.same s
    replace b1 := b1.trans fun b o _ h => s b o h
    generalize upd H1 r (.lst [.str (sOf l1)]) = H2 at hd1 b1 er ⊢
    clear s nr
    walk_at "go"
    refine ⟨_, _, rfl, ⟨by omega, by omega, by omega, by omega⟩, ?_⟩
    have put : ∀ (Ha : Hp) (W : List (List Nat)) (l : List Nat) (i : Nat), GoodW W n → W.length = i + 1 → But p H Ha → HandL Ha p cl → Ha r = some (.lst (strsV W)) → Good l n →
        GoodW (W ++ [l]) n ∧ (W ++ [l]).length = i + 1 + 1 ∧ But p H (upd Ha r (.lst (strsV W ++ [.str (sOf l)]))) ∧ HandL (upd Ha r (.lst (strsV W ++ [.str (sOf l)]))) p cl ∧ upd Ha r (.lst (strsV W ++ [.str (sOf l)])) r = some (.lst (strsV (W ++ [l]))) := fun Ha W l i g0 e0 b0 h0 er0 gl => by
      refine ⟨g0.snoc gl, by rw [List.length_append, e0]; rfl, fun b o nb h => ?_, ?_, by rw [upd_same, strsV_snoc]⟩
      · rw [upd_ne (ne_of_none h nr0)]
        exact b0 b o nb h
      · cases W with
        | nil => simp at e0
        | cons c W => exact h0.keep rp rcl (But.upd (But.refl _ _))
    refine for_it (walk_range (lo := 1) (n := ((m : Int) - 1).toNat)) (fun i σ H' => ∃ (W : List (List Nat)) (o4 o5 : Option V), σ = [some (.ref p), some (.int n), some (.int m), some (.ref r), o4, o5] ∧ GoodW W n ∧ W.length = i + 1 ∧ But p H H' ∧ HandL H' p cl ∧ H' r = some (.lst (strsV W)))
      ⟨[l1], none, none, rfl, fun x hx => by rw [List.mem_singleton] at hx; rw [hx]; exact g1, rfl, b1, hd1, er⟩ (fun _ _ _ _ _ => trivial) ?_ ?_
    · rintro i x σ Ha Hb hi ⟨W, o4, o5, rfl, gW, eW, B, hd, er⟩ ⟨rfl, rfl⟩
      have hi2 : i + 1 < m := by omega
      obtain ⟨l, hl⟩ : ∃ l, W[i]? = some l := ⟨_, List.getElem?_eq_getElem (by omega)⟩
      have gl := gW.at hl
      have fits : (strsV W).length < sizeLine := small1000 (by rw [strsV_len]; omega)
      walk_at "go"
      refine ⟨_, _, cl, rfl, hd, cdivw (by decide) (by decide), fun d H3 d0 d1 b3 hd3 => ?_⟩
      replace B := B.trans b3
      replace er := b3 _ _ rp er
      clear b3 hd
      walk_at "go"
      refine ite2 (fun e => ?_) (fun e => ?_)
      · walk_at "go"
        refine ⟨p, n, cl, rfl, hn, hd3, fun l2 H4 g2 b4 hd4 => ?_⟩
        replace B := B.trans b4
        replace er := b4 _ _ rp er
        obtain ⟨a1, a2, a3, a4, a5⟩ := put H4 W l2 i gW eW B hd4 er g2
        walk_at "go"
        refine ⟨r, _, _, rfl, rfl, er, fits, ?_⟩
        exact ⟨_, _, _, rfl, a1, a2, a3, a4, a5⟩
      · walk_at "go"
        refine ite2 (fun e2 => ?_) (fun e2 => ?_)
        · obtain ⟨a1, a2, a3, a4, a5⟩ := put H3 W l i gW eW B hd3 er gl
          walk_at "go"
          refine ⟨r, _, _, _, rfl, rfl, SqL.of er, by rw [show (1 : Int) + (i : Int) - 1 = (i : Nat) by omega]; exact atI_nat (strsV_at hl), ?_⟩
          walk_at "go"
          refine ⟨r, _, _, rfl, rfl, er, fits, ?_⟩
          exact ⟨_, _, _, rfl, a1, a2, a3, a4, a5⟩
        · walk_at "go"
          refine ⟨r, _, _, _, rfl, rfl, SqL.of er, by rw [show (1 : Int) + (i : Int) - 1 = (i : Nat) by omega]; exact atI_nat (strsV_at hl), ?_⟩
          walk_at "go"
          refine ⟨p, l, n, cl, rfl, hd3, gl, hn, fun l2 H4 g2 b4 hd4 => ?_⟩
          replace B := B.trans b4
          replace er := b4 _ _ rp er
          obtain ⟨a1, a2, a3, a4, a5⟩ := put H4 W l2 i gW eW B hd4 er g2
          walk_at "go"
          refine ⟨r, _, _, rfl, rfl, er, fits, ?_⟩
          exact ⟨_, _, _, rfl, a1, a2, a3, a4, a5⟩
    · rintro σ Ha ⟨W, o4, o5, rfl, gW, eW, B, hd, er⟩
      walk_at "go"
      exact q r W Ha gW (by omega) B hd nr0 er
end

/-! ### the law's marks -/
section
variable {P : Program} {w : World} {K : PySem.W.Frag} {mg : Str → Option Value} {base : Heap} {AD : Ads}
def spMarks5 : Sp := fun vs H Q _ => ∃ (p : Addr) (n wd : Nat) (hl : Addr), vs = [.ref p, .int n, .int wd, .int 14] ∧ (1 ≤ wd ∧ wd ≤ 12) ∧ (1 ≤ n ∧ n ≤ 6) ∧ HandL H p hl ∧
  ∀ mp xs M H', But p H H' → HandL H' p hl → H mp = none → H' mp = some (.lst xs) → Prs H' xs M → OkM M wd n → Q (.ref mp) H'
theorem ok_l_marks (T : Top K mg AD) : FnOk P w K mg base CX0 5 AD.f_l_marks AD.d_l_marks P_l_marks spMarks5 := by
  refine T.D_l_marks.F.ok sc_l_marks (fun vs H Q E h => ?_) (fun cdv A outer s H vs Q E hr h => ?_)
  · obtain ⟨p, n, wd, hl, rfl, _⟩ := h
    rfl
  · obtain ⟨p, n, wd, hl, rfl, ⟨w1, w12⟩, ⟨n1, n6⟩, hd, q⟩ := h
    refine ⟨_, (pss_cons (ps_set (i := 4) sc_l_marks.nd rfl (Or.inl rfl) (pe_lst pa_nil))
    (pss_cons (ps_if (PW.pt (pw_or (pt_cmpR op_lt (pv 2) pe_int (nomark _)) (pw_or1 (pt_cmpR op_lt (pv 1) pe_int (nomark _)))))
    (pss_one (ps_ret (pv 4)))
    pss_nil)
    (pss_cons (ps_for PassesOwn.never rfl (pi_range1 (by rfl) T.b_range (pa_cons (callD T.D_l_draw (ok_l_drawL T) hr (pa_cons (pv 0) (pa_cons (pe_op op_add (pv 3) pe_int) pa_nil))) pa_nil)) (pg_name (i := 5) sc_l_marks.nd rfl (Or.inl rfl))
    (pss_cons (ps_set (i := 6) sc_l_marks.nd rfl (Or.inl rfl) (pe_tup (pa_cons (callD T.D_l_draw (ok_l_drawL T) hr (pa_cons (pv 0) (pa_cons (pe_op op_sub (pv 2) pe_int) pa_nil))) (pa_cons (pe_op op_add pe_int (callD T.D_l_draw (ok_l_drawL T) hr (pa_cons (pv 0) (pa_cons (pe_op op_sub (pe_op op_mul pe_int (pv 1)) pe_int) pa_nil)))) pa_nil))))
    (pss_one (ps_if (pt_cmpR (op_notInDK (K := K) rfl (Sl.Room.units65 hr)) (pv 6) (pv 4) (by rfl))
    (pss_one (ps_expr (pe_bm PySem.F.plainAttrs_list PySem.F.slot_list_append PySem.F.type_list_append mt_append (pv 4) (pa_cons (pv 6) pa_nil))))
    pss_nil))))
    (pss_one (ps_ret (pv 4)))))), ?_⟩
    obtain ⟨ol, hol⟩ := hd.some2
    walk_at "go"
    intro mp nmp
    have mpp := hd.ok.ne nmp
    have mpl : mp ≠ hl := fun z => by rw [z, hol] at nmp; cases nmp
    have s := same_new (o := .lst []) (Same.refl H) nmp
    have em : upd H mp (.lst []) mp = some (.lst []) := upd_same
    have B : But p H (upd H mp (.lst [])) := fun b o _ h => s b o h
    replace hd := hd.same s
    generalize upd H mp (.lst []) = H1 at em B hd ⊢
    walk_at "go"
    refine ite2 (fun e => ?_) (fun e => ?_)
    · walk_at "go"
      exact q mp [] [] H1 B hd nmp em .nil ⟨.nil, fun _ h => by simp at h, by simp⟩
    have w2 : 2 ≤ wd := by
      have : ¬ ((wd : Nat) : Int) < 2 := by simpa using e
      omega
    clear e
    walk_at "go"
    refine ite2 (fun e => ?_) (fun e => ?_)
    · walk_at "go"
      exact q mp [] [] H1 B hd nmp em .nil ⟨.nil, fun _ h => by simp at h, by simp⟩
    have n2 : 2 ≤ n := by
      have : ¬ ((n : Nat) : Int) < 2 := by simpa using e
      omega
    clear e
    walk_at "go"
    refine ⟨_, _, hl, rfl, hd, cdivw (by decide) (by decide), fun d0 H2 d00 d01 b2 hd2 => ?_⟩
    replace B := B.trans b2
    replace em := b2 _ _ mpp em
    walk_at "go"
    refine for_it (walk_range (lo := 0) (n := d0.toNat)) (fun i σ H' => ∃ (xs : List V) (M : List (Nat × Nat)) (o5 o6 : Option V), σ = [some (.ref p), some (.int (n : Nat)), some (.int (wd : Nat)), some (.int 14), some (.ref mp), o5, o6] ∧ But p H H' ∧ HandL H' p hl ∧ H' mp = some (.lst xs) ∧ Prs H' xs M ∧ OkM M wd n ∧ M.length ≤ i)
      ⟨[], [], none, none, rfl, B, hd2, em, .nil, ⟨.nil, fun _ h => by simp at h, by simp⟩, Nat.le_refl _⟩ (fun _ _ _ _ _ => trivial) ?_ ?_
    rotate_left
    · rintro σ Ha ⟨xs, M, o5, o6, rfl, B, hd, em, hM, okM, few⟩
      walk_at "go"
      exact q mp xs M Ha B hd nmp em hM okM
    rintro i x σ Ha Hb hi ⟨xs, M, o5, o6, rfl, B, hd, em, hM, okM, few⟩ ⟨rfl, ex⟩
    have hi14 : i < 15 := by omega
    walk_at "go"
    refine ⟨_, _, hl, rfl, hd, cdivw (by omega) (by omega), fun d1 H4 d10 d11 b4 hd4 => ?_⟩
    obtain ⟨c, rfl⟩ := Int.eq_ofNat_of_zero_le d10
    replace B := B.trans b4
    replace em := b4 _ _ mpp em
    replace hM := hM.keep (o := .lst []) (fun m z => by
      obtain ⟨_, _, _, _, e, _⟩ := hd
      rw [e] at z
      cases z) b4
    clear hd b4
    walk_at "go"
    refine ⟨_, _, hl, rfl, hd4, cdivw (by omega) (by omega), fun d2 H5 d20 d21 b5 hd5 => ?_⟩
    obtain ⟨t, ht⟩ : ∃ t : Nat, 1 + d2 = t := ⟨(1 + d2).toNat, by omega⟩
    replace B := B.trans b5
    replace em := b5 _ _ mpp em
    replace hM := hM.keep (o := .lst []) (fun m z => by
      obtain ⟨_, _, _, _, e, _⟩ := hd4
      rw [e] at z
      cases z) b5
    clear hd4 b5
    have ct : c + 2 ≤ wd ∧ 1 ≤ t ∧ t + 2 ≤ 2 * n := ⟨by omega, by omega, by omega⟩
    walk_at "go"
    refine ⟨szl (by show 2 ≤ 1000; decide), fun T0 nT => ?_⟩
    dsimp only
    rw [ht]
    have s := same_new (o := .tup [.int (c : Nat), .int (t : Nat)]) (Same.refl H5) nT
    have eT : upd H5 T0 (.tup [.int (c : Nat), .int (t : Nat)]) T0 = some (mT (c, t)) := upd_same
    replace em := s _ _ em
    replace hM := hM.mono s
    replace hd5 := hd5.same s
    replace B : But p H (upd H5 T0 (.tup [.int (c : Nat), .int (t : Nat)])) := fun b o nb h => s b o (B b o nb h)
    generalize upd H5 T0 (.tup [.int (c : Nat), .int (t : Nat)]) = H6 at eT em hM hd5 B ⊢
    walk_at "go"
    refine notInL (m := (c, t)) (.tup (SqT.of eT) (.cons (.int _) (.cons (.int _) .nil))) em hM ⟨_, rfl, ?_⟩
    by_cases h : (c, t) ∈ M
    · rw [show (!decide ((c, t) ∈ M)) = false by rw [decide_eq_true h]; rfl]
      walk_at "go"
      exact ⟨xs, M, _, _, rfl, B, hd5, em, hM, okM, by omega⟩
    · rw [show (!decide ((c, t) ∈ M)) = true by rw [decide_eq_false h]; rfl]
      have xl := hM.len
      have Tm : T0 ≠ mp := fun z => by rw [z, em] at eT; cases eT
      walk_at "go"
      refine ⟨mp, xs, _, rfl, rfl, em, small1000 (by omega), ?_⟩
      refine ⟨xs ++ [.ref T0], M ++ [(c, t)], _, _, rfl, fun b o nb h => (upd_ne (fun z => by rw [z, nmp] at h; cases h)).trans (B b o nb h), hd5.keep mpp mpl (But.upd (But.refl _ _)), upd_same,
        Prs.snoc ((upd_ne Tm).trans eT) (hM.keep (o := .lst []) (fun m z => by rw [em] at z; cases z) fun b o nb e => (upd_ne nb).trans e), ⟨?_, ?_, ?_⟩, ?_⟩
      · rw [List.nodup_append]
        refine ⟨okM.nd, by simp, fun a ha b hb z => ?_⟩
        rw [List.mem_singleton] at hb
        exact h (by rw [← hb, ← z]; exact ha)
      · intro m hm
        rcases List.mem_append.mp hm with hm | hm
        · exact okM.ok m hm
        · rw [List.mem_singleton] at hm
          rw [hm]
          exact ct
      · rw [List.length_append]
        show _ + 1 ≤ 20
        omega
      · rw [List.length_append]
        show _ + 1 ≤ i + 1
        omega
end

/-! ### the law's text -/
section
variable {P : Program} {w : World} {K : PySem.W.Frag} {mg : Str → Option Value} {base : Heap} {AD : Ads}
def spLText : Sp := fun vs H Q _ => ∃ (wl ml : Addr) (W : List (List Nat)) (xs : List V) (M : List (Nat × Nat)) (n : Nat), vs = [.ref wl, .ref ml] ∧ H wl = some (.lst (strsV W)) ∧ GoodW W n ∧ (1 ≤ W.length ∧ W.length ≤ 12) ∧ (1 ≤ n ∧ n ≤ 6) ∧ H ml = some (.lst xs) ∧ Prs H xs M ∧ OkM M W.length n ∧
  ∀ N H', N.Perm M → N.Pairwise lexLe → Same H H' → Q (.str (txtOf W N)) H'
theorem ok_l_text (T : Top K mg AD) : FnOk P w K mg base CX0 5 AD.f_l_text AD.d_l_text P_l_text spLText := by
  refine T.D_l_text.F.ok sc_l_text (fun vs H Q E h => ?_) (fun cdv A outer s H vs Q E hr h => ?_)
  · obtain ⟨wl, ml, W, xs, M, n, rfl, _⟩ := h
    rfl
  · obtain ⟨wl, ml, W, xs, M, n, rfl, ew, gW, ⟨w1, w12⟩, ⟨n1, n6⟩, em, hM, ok, q⟩ := h
    refine ⟨_, (pss_cons (ps_set (i := 2) sc_l_text.nd rfl (Or.inl rfl) (pe_callTy (call_listQ (K := K) rfl) (by rfl) T.b_list (by decide +kernel) (pa_cons (pv 0) pa_nil)))
    (pss_cons (ps_for PassesOwn.never rfl (pi_list (pe_callB cr_sortedPO (by rfl) T.b_sorted (by decide +kernel) (pa_cons (pv 1) pa_nil))) (pg_tup (by rfl) (pgs_cons (pg_name (i := 3) sc_l_text.nd rfl (Or.inl rfl)) (pgs_cons (pg_name (i := 4) sc_l_text.nd rfl (Or.inl rfl)) pgs_nil)))
    (pss_one (ps_expr (pe_bm PySem.F.plainAttrs_list PySem.F.slot_list_append PySem.F.type_list_append mt_append (pv 2) (pa_cons (pe_op op_add_str (pe_op op_add_str (pe_op op_add_str pe_str (pe_callTy call_str_int (by rfl) T.b_str (by decide +kernel) (pa_cons (pv 3) pa_nil))) pe_str) (pe_callTy call_str_int (by rfl) T.b_str (by decide +kernel) (pa_cons (pv 4) pa_nil))) pa_nil)))))
    (pss_one (ps_ret (pe_join pe_str (pv 2)))))), ?_⟩
    walk_at "go"
    intro L nL
    have s1 := same_new (o := .lst (strsV W)) (Same.refl H) nL
    have eL : upd H L (.lst (strsV W)) L = _ := upd_same
    replace em := s1 _ _ em
    replace hM := hM.mono s1
    generalize upd H L (.lst (strsV W)) = H1 at s1 eL em hM ⊢
    walk_at "go"
    unfold tNil
    refine sortP (K := K) em hM fun ys p N pN sN hN np => ?_
    have Lp : p ≠ L := fun z => by rw [z, eL] at np; cases np
    have s2 := same_new (o := .lst ys) (Same.refl H1) np
    have ep : upd H1 p (.lst ys) p = some (.lst ys) := upd_same
    replace eL := s2 _ _ eL
    replace hN := hN.mono s2
    replace s2 := s1.trans s2
    generalize upd H1 p (.lst ys) = H2 at s2 ep eL hN ⊢
    have lN : N.length ≤ 20 := by rw [pN.length_eq]; exact ok.few
    have small : ∀ m ∈ N, m.1 < 12 ∧ m.2 < 12 := fun m hm => by
      have := ok.ok m (pN.mem_iff.mp hm)
      omega
    clear np em hM s1
    walk_at "go"
    refine ⟨⟨_, SqL.of ep⟩, ?_⟩
    refine for_it (walk_list (xs := ys)) (fun i σ H' => ∃ o3 o4, σ = [some (.ref wl), some (.ref ml), some (.ref L), o3, o4] ∧ But L H2 H' ∧ H' L = some (.lst (strsV W ++ (N.take i).map fun m => V.str (sOf (slitL m)))))
      ⟨none, none, rfl, But.refl _ _, by rw [List.take_zero, List.map_nil, List.append_nil]; exact eL⟩ (fun i σ H' _ ⟨_, _, _, b, _⟩ => SqL.of (b _ _ Lp ep)) ?_ ?_
    · rintro i z σ Ha Hb hi ⟨o3, o4, rfl, bt, e3⟩ ⟨rfl, ez⟩
      obtain ⟨T0, m, rfl, mN, eT⟩ := (hN.keep (o := .lst []) (fun m z => by rw [eL] at z; cases z) bt).at ez
      obtain ⟨m1, m2⟩ := small m (List.mem_of_getElem? mN)
      obtain ⟨c, t⟩ := m
      refine ⟨T0, [.int (c : Nat), .int (t : Nat)], rfl, SqT.of eT, rfl, _, _, rfl, _, _, rfl, rfl, ?_⟩
      have y1 := lenI5 m1
      have y2 := lenI5 m2
      walk_at "go"
      have g1 : ("slit " : Str).length ≤ 5 := by decide +kernel
      have g2 : (" " : Str).length ≤ 1 := by decide +kernel
      have u1 := lenA5 g1 y1.1
      have u2 := lenA5 u1 g2
      have zz : ∀ {a b k l : Nat}, a ≤ k → b ≤ l → k + l ≤ 30 → a + b ≤ sizeLine := fun h1 h2 h3 => Nat.le_trans (Nat.add_le_add h1 h2) (Nat.le_trans h3 (by decide))
      refine ⟨y1.2, _, _, rfl, rfl, zz g1 y1.1 (by decide), ?_⟩
      refine ⟨_, _, rfl, rfl, zz u1 g2 (by decide), ?_⟩
      walk_at "go"
      refine ⟨y2.2, _, _, rfl, rfl, zz u2 y2.1 (by decide), ?_⟩
      have lw := strsV_len W
      refine ⟨L, _, _, rfl, rfl, e3, small1000 (by rw [List.length_append, List.length_map, List.length_take]; omega), ?_⟩
      refine ⟨_, _, rfl, But.upd bt, ?_⟩
      rw [upd_same, List.take_add_one, mN, List.map_append]
      show some (HO.lst ((_ ++ _) ++ [V.str (lS c t)])) = _
      rw [of_decide_eq_true (by12 lS0 m1 m2), List.append_assoc]
      rfl
    · rintro σ Ha ⟨o3, o4, rfl, bt, e3⟩
      rw [hN.len, List.take_length] at e3
      walk_at "go"
      have er : strsV W ++ N.map (fun m => V.str (sOf (slitL m))) = ((rowsL W N).map sOf).map V.str := by
        unfold rowsL strsV
        simp [Function.comp_def]
      rw [er] at e3
      refine ⟨nlS, L, (rowsL W N).map sOf, rfl, rfl, .inl (SqL.of e3), ?_, q N _ pN sN fun a o e => bt a o (fun z => by rw [z, nL] at e; cases e) (s2 a o e)⟩
      have h1 := sum12 _ (rows_short small fun l hl => by have := (gW l hl).len; omega)
      rw [List.length_map, rowsL_len] at h1
      rw [List.length_map, rowsL_len, show nlS.length = 1 from rfl]
      omega
end

/-! ### enumerate(e, start=1) -/
section
variable {prog : Program} {w : World} {A : Around} {E : Value → Shared → Prop} {s : Shared}
theorem typeCall_enum1 (a v : Value) : checkTypeCall "enumerate" ⟨[a], [("start", v)]⟩ = pure () := by kernel_rfl
theorem newCall_enum1 (a v : Value) : checkBuiltinCall "enumerate.__new__" ⟨[.type "enumerate", a], [("start", v)]⟩ = pure () := by kernel_rfl
theorem meets_enum1 (l : Addr) (items : Array Value) (n : Nat) (dct : Option Addr) (sl : Array (Option Value)) (t : Tok) :
    Meets (Builtin.«enumerate.__new__» ⟨[.type "enumerate", .ref l], [("start", .int 1 t)]⟩) (fun _ R s => s.heap.get? l = some { cls := .type "list", dict := dct, data := .seq items n, slots := sl } ∧
      R (.ok (.ret (.ref (s.heap.push { cls := .type "list_iterator", data := .fields #[.ref l, .int 0 0] }).objs.size)))
        { s with heap := (s.heap.push { cls := .type "list_iterator", data := .fields #[.ref l, .int 0 0] }).push { cls := .type "enumerate", data := .fields #[.none, .bool false, .ref s.heap.objs.size, rawInt 1, .none, .none] } }) :=
  .of_wp fun prog w A R s h => by
    obtain ⟨hp, g, d, tk, os⟩ := s; obtain ⟨hl, h⟩ := h
    have hsub := sub_enumerate
    have hL : Heap.IsList (Shared.heap ⟨hp, g, d, tk, os⟩) l items := ⟨_, hl, rfl, n, rfl⟩
    wp_walk using AutoSeq1.wpAny_loadPart' hl
    refine wpAny_stack_any fun st => wpAny_pure ?_
    split
    · rename_i c _ _ _ _ _
      cases (c == Value.type "enumerate")
      · wp_walk using AutoSeq1.wpAny_loadPart' hl, wpAny_pyIter_list hL
        exact ⟨_, rfl, h⟩
      · wp_walk using AutoSeq1.wpAny_loadPart' hl, wpAny_pyIter_list hL
        exact ⟨_, rfl, h⟩
    · wp_walk using AutoSeq1.wpAny_loadPart' hl, wpAny_pyIter_list hL
      exact ⟨_, rfl, h⟩
theorem callType_meetsK {T newId initId : String} {Bn Bi : Builtin} {args : List Value} {kw : List (Str × Value)} {S : PySem.Spec} {Q Q₁ : Value → Shared → Prop} (ft : TypeCalled T newId initId)
    (hct : checkTypeCall T ⟨args, kw⟩ = pure ()) (hcn : checkBuiltinCall newId ⟨.type T :: args, kw⟩ = pure ())
    (entryN : entryFor table newId = some Bn) (entryI : entryFor table initId = some Bi) (g : Meets (Bn ⟨.type T :: args, kw⟩) S)
    (h : S A.in1 (wants Q₁ E) s)
    (hnext : ∀ obj s₁, Q₁ obj s₁ → s₁.TypeIs obj T ∧ argsOk initId ⟨obj :: args, kw⟩ ∧ ∃ Si, Meets (Bi ⟨obj :: args, kw⟩) Si ∧ Si A.in1 (wants (fun r s₂ => r = .none ∧ Q obj s₂) E) s₁) :
    wpAny (model prog w) A (call (.type T) args kw) Q E s := by
  obtain ⟨c, tl, hmro⟩ := ft.mro
  have hmade := ft.made
  have hsub := ft.sub
  refine wpAny_call (codeAny_of_tree ?_)
  show wpAny _ _ (callAny (.type T) _) _ _ _
  refine wpAny_pure ⟨Code.quiet_builtin _ (by decide +kernel), codeAny_builtin F.entry_type_call ?_⟩
  rw [Around.under_plain (weight_type_call_type T args kw) (units_type_call_type T args kw)]
  have h1 := ft.notType
  have h2 := ft.canCreate
  repeat (any_goals (first | assumption | wp_step))
  refine codeAny_mono (codeAny_call_builtin ft.plain entryN (wpAny_of_eq hcn (g prog w A.in1 _ s h))) fun r s₁ hr => ?_
  cases r with
  | error e => exact hr
  | ok fl =>
    cases fl with
    | ret obj =>
      obtain ⟨hT, hok, Si, gi, hsi⟩ := hnext _ _ hr
      have hli := ft.init.lookup
      have hbi := ft.init.bind obj
      repeat (any_goals (first | assumption | wp_step))
      refine codeAny_mono (codeAny_call_builtin ft.init.plain entryI (ft.init.check _ _ _ _ _ _ _ _ hT hok (gi prog w A.in1 _ s₁ hsi))) fun r₂ s₂ hr₂ => ?_
      cases r₂ with
      | error e => exact hr₂
      | ok fl₂ =>
        cases fl₂ with
        | ret r =>
          obtain ⟨rfl, hq⟩ := hr₂
          repeat (any_goals (first | assumption | wp_step))
        | _ => exact hr₂.elim
    | _ => exact hr.elim
theorem args_init_enum1 (o a v : Value) : argsOk "object.__init__" ⟨[o, a], [("start", v)]⟩ := by
  unfold argsOk
  kernel_rfl
theorem object_init_meetsK {T newId : String} {self a v : Value} (hl : typeLookup (.type T) "__init__" = pure (some (.builtin "object.__init__")))
    (hm : Bind.madeBy (.type T) = pure (some newId)) (hne : (some newId != some "object.__new__") = true) :
    Meets (Builtin.«object.__init__» ⟨[self, a], [("start", v)]⟩) (fun _ R s => s.TypeIs self T ∧ R (.ok (.ret .none)) s) := by
  refine Meets.of_wp fun prog w A R s hs => ?_
  obtain ⟨hT, hq⟩ := hs
  repeat (any_goals (first | assumption | wp_step))
  exact ⟨_, rfl, hq⟩
theorem call_enum1 {l : Addr} {items : Array Value} {t : Tok} {Q : Value → Shared → Prop} (hL : s.heap.IsList l items)
    (h : ∀ h', IsEnum h' (s.heap.objs.size + 1) s.heap.objs.size 1 .none → h'.IsListIter s.heap.objs.size l 0 → h'.objs.size = s.heap.objs.size + 2 →
      (∀ b o, s.heap.get? b = some o → h'.get? b = some o) → Q (.ref (s.heap.objs.size + 1)) { s with heap := h' }) :
    wpAny (model prog w) A (call (.type "enumerate") [.ref l] [("start", .int 1 t)]) Q E s := by
  obtain ⟨⟨c, dct, dt, sl⟩, hl, hc, n, hd⟩ := hL
  replace hc : c = .type "list" := hc
  replace hd : dt = .seq items n := hd
  subst hc hd
  refine callType_meetsK (Q₁ := fun obj s₁ => s₁.TypeIs obj "enumerate" ∧ Q obj s₁) F.called_enumerate (typeCall_enum1 _ _) (newCall_enum1 _ _) F.entry_enumerate_new F.entry_object_init (meets_enum1 l items n dct sl t) ⟨hl, ?_⟩ fun obj _ hq =>
    ⟨hq.1, args_init_enum1 obj _ _, _, object_init_meetsK F.called_enumerate.init.lookup F.called_enumerate.made (by decide), hq.1, rfl, hq.2⟩
  have hz : (s.heap.push { cls := .type "list_iterator", data := .fields #[.ref l, .int 0 0] }).objs.size = s.heap.objs.size + 1 := Heap.size_push ..
  show _ ∧ _
  rw [hz]
  have he : IsEnum ((s.heap.push { cls := .type "list_iterator", data := .fields #[.ref l, .int 0 0] }).push
      { cls := .type "enumerate", data := .fields #[.none, .bool false, .ref s.heap.objs.size, rawInt 1, .none, .none] }) (s.heap.objs.size + 1) s.heap.objs.size 1 .none := by
    have := Heap.get?_push_size (s.heap.push { cls := .type "list_iterator", data := .fields #[.ref l, .int 0 0] })
      (o := { cls := .type "enumerate", data := .fields #[.none, .bool false, .ref s.heap.objs.size, rawInt 1, .none, .none] }) rfl
    rw [hz] at this; exact this
  refine ⟨⟨_, he, rfl⟩, h _ he ⟨_, Heap.get?_push_of_some _ (Heap.get?_push_size _ rfl), rfl, rfl⟩ (by rw [Heap.size_push, hz]) fun b o x => Heap.get?_push_of_some _ (Heap.get?_push_of_some _ x)⟩
end

/-! ### for i, x in enumerate(e, start=1), e a list -/
theorem draws_up {prog : Program} {w : World} {A : Around} {it : Addr} {fp : List Addr} {n : Nat} {P : Nat → Value → Prop} {St : Nat → Heap → Prop} (D : Draws prog w A it fp n P St) :
    Draws prog w A it fp (n + 1) (fun j v => 1 ≤ j ∧ P (j - 1) v) (fun j h => 1 ≤ j ∧ St (j - 1) h) where
  live := fun j h st => D.live _ h st.2
  frame := fun j h h' st hk => ⟨st.1, D.frame _ h h' st.2 hk⟩
  item := fun j s Q E hj st hQ => D.item (j - 1) s Q E (by have := st.1; omega) st.2 fun x h' tk hp hs k => hQ x h' tk ⟨st.1, hp⟩ ⟨by omega, by rw [show j + 1 - 1 = j - 1 + 1 by have := st.1; omega]; exact hs⟩ k
  done := fun s Q E st hE => D.done s Q E st.2 hE
/-- the list at a as it stands at each turn, each item in a new pair, counted from 1 -/
def Ite1 (K : PySem.W.Frag) (a : Addr) : It :=
  ⟨fun i H => ∃ (xs : List V) (x : V), SqL K H a xs ∧ xs[i]? = some x, fun i H v H' => ∃ T x, v = .ref T ∧ H T = none ∧ H' = L2.upd H T (.tup [.int (i + 1 : Nat), x]) ∧ (∀ ys, SqL K H a ys → ys[i]? = some x), fun i H => ∃ xs : List V, SqL K H a xs ∧ xs.length ≤ i⟩
theorem lst_ne {h : Heap} {l it : Addr} {xs : Array Value} {n : Nat} (p : h.IsList l xs) (q : h.IsListIter it l n) : l ≠ it := fun z => by
  obtain ⟨o, e, c, _⟩ := p
  obtain ⟨o2, e2, c2, _⟩ := q
  rw [z, e2] at e
  cases e
  exact absurd (Value.type.inj (c2.symm.trans c)) (by decide)
theorem lst_ne2 {h : Heap} {l en it : Addr} {xs : Array Value} {i : Int} {old : Value} (p : h.IsList l xs) (q : IsEnum h en it i old) : en ≠ l := fun z => by
  obtain ⟨o, e, c, _⟩ := p
  have q' : h.get? en = some _ := q
  rw [z, e] at q'
  cases q'
  exact absurd (Value.type.inj c) (by decide)
theorem turn_enum1 {P : Program} {w : World} {K : PySem.W.Frag} {elts : List Expr} {kk : Nat} {tpos : Pos} (a e it : Addr) :
    Turn P w K (.Tuple elts kk tpos) (Ite1 K a) [e, it] e (fun i h => (∃ old, IsEnum h e it ((i + 1 : Nat) : Int) old) ∧ h.IsListIter it a i ∧ e ≠ it) where
  mem := by simp
  obj := fun i h ⟨⟨old, he⟩, ⟨o, ho, hc, hd⟩, _⟩ b hb => by
    rcases (show b = e ∨ b = it by simpa using hb) with z | z
    · rw [z]
      exact ⟨_, he, fun v q => nomatch q⟩
    · rw [z]
      exact ⟨o, ho, fun v q => by rw [hd] at q; cases q⟩
  keep := fun i h h' ⟨⟨old, he⟩, hi, ne⟩ k => ⟨⟨old, k e (by simp) _ he⟩, hi.at fun o q => k it (by simp) o q, ne⟩
  item := by
    intro X hP hw hK calm i pins s σ H E I hf ⟨⟨old, he⟩, hit, ne⟩ ⟨xs, x, hq, hx⟩
    subst hP hw hK
    obtain ⟨its, rv, p, hz⟩ := I.list hq
    have pt : s.heap.IsList a its.toArray := p.isList
    obtain ⟨u, hu, ru⟩ := rv.get hx
    have hlt : i + 1 < its.toArray.size + 1 := by
      have := List.getElem?_eq_some_iff.mp hu
      obtain ⟨h1, _⟩ := this
      simpa using h1
    have el := Heap.lt_size he
    have il : it < s.heap.objs.size := by obtain ⟨_, q, _⟩ := hit; exact Heap.lt_size q
    have D := draws_up (Draws.list (prog := X.prog) (w := X.w) (A := X.A.in1) (I.ok.hd calm) it a (lst_ne pt hit) its.toArray)
    refine wpAny_pyNext_enum_itemD D he ⟨by omega, hit, pt⟩ hlt ne (by simp [ne, lst_ne2 pt he]) fun v h' tk hv ho ⟨_, hit', pt'⟩ hT hsz hk => ?_
    obtain rfl : u = v := by
      have h2 := hv.2
      rw [Nat.add_sub_cancel, List.getElem?_toArray, hu] at h2
      exact Option.some.inj h2
    refine ⟨_, rfl, wpAny_letOwnedTupleGo_enum (s := { s with heap := h', toks := tk + 1 }) ho fun h2 he2 sb => ?_⟩
    have hT2 : h2.get? s.heap.objs.size = some { cls := .type "tuple", data := .seq #[.int (i + 1 : Nat) tk, u] } := (sb.2 _ (Nat.ne_of_gt el)).trans hT
    have new : ObjOk X.prog X.w (L2.upd H s.heap.objs.size (.tup [.int (i + 1 : Nat), x])) h2 s.heap.objs.size (.tup [.int (i + 1 : Nat), x]) :=
      ⟨by show 2 ≤ sizeLine; decide, [.int (i + 1 : Nat) tk, u], .cons ⟨_, rfl⟩ (.cons ru .nil), ⟨_, hT2, rfl, _, rfl⟩⟩
    have I1 : L2.Inv X pins σ (L2.upd H s.heap.objs.size (.tup [.int (i + 1 : Nat), x])) { s with heap := h2, toks := tk + 1 } :=
      I.turnedNew (ch := [e, it]) (fun b ob hb q => (sb.2 b (fun z => hb (by simp [z]))).trans (hk b ob (fun z => hb (by simp [z])) (fun z => hb (by simp [z])) q)) hf (Nat.le_refl _) new
    refine ⟨.ref s.heap.objs.size, _, I1, rfl, ⟨_, x, rfl, I.hok.fresh (Nat.le_refl _), rfl, fun ys hy => by rw [I.list_inj hy hq]; exact hx⟩, ⟨⟨u, ?_⟩, (show h'.IsListIter it a (i + 1) from by simpa using hit').at fun o q => (sb.2 it (Ne.symm ne)).trans q, ne⟩, fun b hb => ?_⟩
    · rw [show ((i + 1 + 1 : Nat) : Int) = ((i + 1 : Nat) : Int) + 1 by omega]
      exact he2
    · have lt : b < s.heap.objs.size := by
        rcases (show b = e ∨ b = it by simpa using hb) with z | z
        · exact z ▸ el
        · exact z ▸ il
      exact (upd_ne (Nat.ne_of_lt lt)).trans (hf b hb).1
  done := by
    intro X hP hw hK calm i pins s σ H E I hf ⟨⟨old, he⟩, hit, ne⟩ ⟨xs, hq, hx⟩
    subst hP hw hK
    obtain ⟨its, rv, p, hz⟩ := I.list hq
    have pt : s.heap.IsList a its.toArray := p.isList
    obtain ⟨f0, f1, f2, f3, f4, f5⟩ := hf it (by simp)
    have many := rv.length
    have eT : s.TypeIs (.ref e) "enumerate" := ⟨_, he, rfl⟩
    unfold pyNext
    refine wpAny_bind (wpAny_attempt (wpAny_callSpecial?_slot (name := Str.ofString "__next__") eT F.slot_enumerate_next (wpAny_call_entry F.slot_enumerate_next eT F.entry_enumerate_next ?_ (F.args_enumerate_next_1 _))))
    show wpAny _ _ (field (.ref e) 2 >>= _) _ _ _
    refine wpAny_bind (wpAny_field he rfl (x := .ref it) rfl (wpAny_bind (wpAny_nextOf_list_end (I.ok.hd calm) hit pt (by simp; omega) fun h' er eb ⟨o, ho, hc⟩ => ?_)))
    exact wpAny_bind (wpAny_isInstance (T := "StopIteration") (b := true) ⟨o, ho, hc⟩ isSubtype_stop (wpAny_pure ⟨rfl, I.turned (t' := s.toks) (fun b o hb q => eb b o hb q) f0 f1 f3 f4 f5⟩))
  self := fun A i s Q E ⟨⟨_, he⟩, _⟩ h => wpAny_pyIter_enum he h
theorem walk_enum1 {K : PySem.W.Frag} {a : Addr} {xs : List V} : Walk (Ite1 K a) xs.length (fun H => SqL K H a xs) (YPair (fun i => some (.int (i + 1 : Nat))) (fun i => xs[i]?)) := by
  refine ⟨fun i _ hi q => ⟨xs, xs[i], q, by simp [hi]⟩, fun _ q => ⟨xs, q, Nat.le_refl _⟩, fun i H v H' _ q y => ?_⟩
  obtain ⟨T, x, e1, e2, e3, e4⟩ := y
  exact ⟨T, .int (i + 1 : Nat), x, e1, e2, e3, rfl, e4 xs q⟩
theorem callWith_typeK {M : Model} {A : Around} {E : Value → Shared → Prop} {s : Shared} {pos : Pos} {T : String} {args : List (Bool × Sem Value)} {kws : List (Option Str × Sem Value)} {Q : Value → Shared → Prop}
    (hplain : (args.any (·.1) || kws.any (·.1.isNone)) = false)
    (h : wpAny M A (evalArgs (.type T) true args kws) (fun a s₁ => wpAny M A (call (.type T) ([] ++ a.pos) a.kw) Q E s₁) E s) : wpAny M A (callWith pos (.type T) [] args kws) Q E s := by
  unfold callWith
  refine wpAny_bind (wpAny_holding (wpAny_mono h (fun a s1 h1 => wpAny_bind (wpAny_standAt ?_)) fun _ _ x => x))
  simp only [hplain]
  refine wpAny_bind (wpAny_pure ?_)
  exact wpAny_bind (wpAny_mono h1 (fun r s2 hr => wpAny_bind (wpAny_holding (wpAny_point (wpAny_pure hr)))) fun _ _ x => x)
def iEnum1 (K : PySem.W.Frag) (ta tk : TA) : TI := fun σ H R => ta σ H fun vs H1 => tk σ H1 fun zs H2 => ∃ a xs, vs = [.ref a] ∧ zs = [.int 1] ∧ SqL K H2 a xs ∧ R (Ite1 K a) H2
theorem pi_enum1 {X : Cx} {K : PySem.W.Frag} {e ke : Expr} {ta tk : TA} {p pos tpos kp : Pos} {elts : List Expr} {kk : Nat} (hK : X.K = K) (hg : Gl X "enumerate") (hm : X.mg "enumerate" = none) (ha : PA X [e] ta) (hkw : PK X [⟨some "start", ke, kp⟩] tk)
    (he : starEach [e] X.env = (false, eval e X.env) :: starEach [] X.env := by rfl) (hall : (backToKw pos (keywordEach [⟨some "start", ke, kp⟩] X.env)).all (·.1.isSome) = true := by rfl)
    (hks : (backToKw pos (keywordEach [⟨some "start", ke, kp⟩] X.env)).filterMap (·.1) = [Str.ofString "start"] := by rfl)
    (hpl : ((backTo pos (starEach [e] X.env)).any (·.1) || (backToKw pos (keywordEach [⟨some "start", ke, kp⟩] X.env)).any (·.1.isNone)) = false := by rfl) :
    PI X (.Tuple elts kk tpos) (.Call (.Name "enumerate" p) [e] [⟨some "start", ke, kp⟩] pos) (iEnum1 K ta tk) := by
  subst hK
  refine ⟨fun pins s σ H R I h => ?_⟩
  refine wpAny_Call_Name_kw (ld_blt I hg hm boot_enumerate ?_)
  refine callWith_typeK hpl (evalArgs_kw2 hall (thn (ha.run pos pins s σ H _ I h) fun us s1 ⟨vs, H1, I1, r1, q1⟩ => thn (hkw.run pos pins s1 σ H1 _ I1 q1) fun ws s2 ⟨zs, H2, I2, rz, a, xs, ex, ez, hq, q⟩ => ?_) he)
  rw [hks]
  subst ex ez
  obtain ⟨u, rfl, ru⟩ := r1.one
  obtain ⟨u2, rfl, ru2⟩ := rz.one
  cases ru
  obtain ⟨t, rfl⟩ := ru2
  obtain ⟨its, rv, p', hz⟩ := I2.list hq
  have foot : ∀ b, b ∈ [s2.heap.objs.size + 1, s2.heap.objs.size] → FpOk X pins H2 b := fun b hb => by
    have le : s2.heap.objs.size ≤ b := by
      rcases (show b = s2.heap.objs.size + 1 ∨ b = s2.heap.objs.size by simpa using hb) with z | z
      · exact z ▸ Nat.le_succ _
      · exact z ▸ Nat.le_refl _
    exact I2.fpOk le (I2.hok.fresh le)
  exact call_enum1 p'.isList fun h' he hit hsz hk => wpAny_pyIter_enum he ⟨_, _, _, _, H2, rfl, I2.kept (t' := s2.toks) hk, turn_enum1 a (s2.heap.objs.size + 1) s2.heap.objs.size, ⟨⟨.none, he⟩, hit, Nat.succ_ne_self _⟩, foot, q⟩

/-! ### parse_card -/
section
variable {P : Program} {w : World} {K : PySem.W.Frag} {mg : Str → Option Value} {base : Heap} {AD : Ads}
theorem ok_BadText___init__ (T : Top K mg AD) : FnOk P w K mg base CX0 1 AD.f_BadText___init__ AD.d_BadText___init__ P_BadText___init__ (spE2 K "row" "what") := by
  refine T.D_BadText___init__.F.ok sc_BadText___init__ (fun vs H Q E h => ?_) (fun cdv A outer s H vs Q E hr h => ?_)
  · obtain ⟨a, C, v, u, rfl, _⟩ := h
    rfl
  · obtain ⟨a, C, v, u, rfl, ho, hf, hg, ha, q⟩ := h
    refine ⟨_, (pss_cons (ps_ost (pv 0) (pv 1))
    (pss_one (ps_ost (pv 0) (pv 2)))), ?_⟩
    walk_at "go"
    refine ⟨a, C, rfl, ho, hf, .inl ⟨ha, fun dx n ne => ?_⟩⟩
    walk_at "go"
    refine ⟨a, C, rfl, ho, hg, .inr ⟨dx, _, upd_same, (upd_ne ne).trans upd_same, by show 1 ≤ 900; decide, q dx n ne⟩⟩
theorem before_of {M : List (Nat × Nat)} (srt : M.Pairwise lexLe) (nd : M.Nodup) {j : Nat} (hj : j < M.length) {k : Nat × Nat} (hk : (M.take j).getLast? = some k) : k.1 < M[j].1 ∨ (k.1 = M[j].1 ∧ k.2 < M[j].2) := by
  have hl : 0 < (M.take j).length := by
    cases h : M.take j with
    | nil => rw [h] at hk; cases hk
    | cons _ _ => exact Nat.succ_pos _
  rw [List.length_take] at hl
  have hj1 : j - 1 < M.length := by omega
  have e : M[j - 1] = k := by
    rw [List.getLast?_eq_getElem?, List.length_take, Nat.min_eq_left (by omega), List.getElem?_take_of_lt (by omega), List.getElem?_eq_getElem hj1] at hk
    exact Option.some.inj hk
  have h1 : lexLe M[j - 1] M[j] := List.pairwise_iff_getElem.mp srt (j - 1) j hj1 hj (by omega)
  have h2 : M[j - 1] ≠ M[j] := List.pairwise_iff_getElem.mp nd (j - 1) j hj1 hj (by omega)
  rw [e] at h1 h2
  generalize M[j] = m at h1 h2
  obtain ⟨k1, k2⟩ := k
  obtain ⟨a1, a2⟩ := m
  unfold lexLe lexLt at h1
  dsimp only at h1 ⊢
  by_cases z : a1 = k1
  · rw [if_pos z] at h1
    have h3 := of_decide_eq_false h1
    have h4 : k2 ≠ a2 := fun y => h2 (by rw [z, y])
    omega
  · rw [if_neg z] at h1
    have h3 := of_decide_eq_false h1
    omega
theorem joinL_len (S : List Nat) : ∀ P : List (List Nat), (TL.joinL S P).length ≤ (P.map List.length).sum + P.length * S.length
  | [] => Nat.zero_le _
  | [p] => by
    simp only [TL.joinL, List.map_cons, List.map_nil, List.sum_cons, List.sum_nil, List.length_cons, List.length_nil]
    omega
  | p :: q :: r => by
    have h := joinL_len S (q :: r)
    simp only [TL.joinL, List.length_append, List.map_cons, List.sum_cons, List.length_cons] at h ⊢
    rw [Nat.add_mul] at h ⊢
    rw [Nat.add_mul]
    omega
theorem txt_fits {W : List (List Nat)} {M : List (Nat × Nat)} (lW : W.length ≤ 12) (lM : M.length ≤ 20) (hM : ∀ m ∈ M, m.1 < 12 ∧ m.2 < 12) (hW : ∀ l ∈ W, l.length ≤ 12) : (txtOf W M).length + 2 ≤ sizeLine := by
  have h1 := sum12 _ (rows_short (N := M) hM hW)
  have h2 := joinL_len (TL.tl nlS) (((rowsL W M).map sOf).map TL.tl)
  have h3 : (txtOf W M).length = (TL.joinL (TL.tl nlS) (((rowsL W M).map sOf).map TL.tl)).length := by
    unfold txtOf
    rw [TL.join_eq, ← TL.tl_join]
    rfl
  have h4 : ((((rowsL W M).map sOf).map TL.tl).map List.length) = ((rowsL W M).map sOf).map (·.length) := by
    rw [List.map_map]
    rfl
  rw [h4, List.length_map, List.length_map, rowsL_len, show (TL.tl nlS).length = 1 from rfl] at h2
  rw [List.length_map, rowsL_len] at h1
  rw [h3]
  exact szl (by show _ ≤ 1000; omega)
def spParse (AD : Ads) : Sp := fun vs H Q _ => ∃ W M n, vs = [.str (txtOf W M)] ∧ GoodW W n ∧ (1 ≤ W.length ∧ W.length ≤ 12) ∧ (1 ≤ n ∧ n ≤ 6) ∧ OkM M W.length n ∧ M.Pairwise lexLe ∧
  ∀ x H', Same H H' → H x = none → CardAt AD H' x W M n → Q (.ref x) H'
theorem ok_parse_card (T : Top K mg AD) : FnOk P w K mg base (L2.CX P w) 10 AD.f_parse_card AD.d_parse_card P_parse_card (spParse AD) := by
  refine T.D_parse_card.F.okX sc_parse_card (fun vs H Q E h => ?_) (fun cdv A outer s H vs Q E hr h => ?_)
  · obtain ⟨W, M, n, rfl, _⟩ := h
    rfl
  · obtain ⟨W, M, n, rfl, gW, ⟨w1, w12⟩, ⟨n1, n6⟩, ok, srt, q⟩ := h
    refine ⟨_, (pss_cons (ps_if (pt_not (pt_val (pe_callB (call_isiK' (K := K) rfl) (by rfl) T.b_isinstance (by decide +kernel) (pa_cons (pv 0) (pa_cons (pe_bltn (v := .ty "str") (u := .type "str") (by rfl) T.b_str (by decide +kernel) rfl) pa_nil)))))
    (pss_one (ps_raise rfl (takes_of rfl rfl rfl rfl) (pmk_oex T.x_BadText.oex T.x_BadText.ini T.x_BadText.tI (ok_BadText___init__ T) (hr.mono (by decide)) T.D_BadText___init__.b .nil pass0 (by rfl) T.x_BadText.g (pa_cons pe_int (pa_cons (pe_s (x := Str.ofString "text") [116, 101, 120, 116] (by decide +kernel)) pa_nil)))))
    pss_nil)
    (pss_cons (ps_set (i := 1) sc_parse_card.nd rfl (Or.inl rfl) (pe_lst pa_nil))
    (pss_cons (ps_set (i := 2) sc_parse_card.nd rfl (Or.inl rfl) (pe_lst pa_nil))
    (pss_cons (ps_for (passes_of rfl) rfl (pi_enum1 (K := K) rfl (by rfl) T.b_enumerate (pa_cons (pe_m1 PySem.F.slot_str_split PySem.F.type_str_split mt_split (pv 0) (pe_s [10] (by decide +kernel))) pa_nil) (L2.pk_cons pe_int L2.pk_nil)) (pg_tup (by rfl) (pgs_cons (pg_name (i := 3) sc_parse_card.nd rfl (Or.inl rfl)) (pgs_cons (pg_name (i := 4) sc_parse_card.nd rfl (Or.inl rfl)) pgs_nil)))
    (pss_cons (ps_set (i := 5) sc_parse_card.nd rfl (Or.inl rfl) (callD T.D_slit_of (ok_slit_of T) hr (pa_cons (pv 4) pa_nil)))
    (pss_cons (ps_if (pt_val (callD T.D_is_word_row (ok_is_word_row T) hr (pa_cons (pv 4) pa_nil)))
    (pss_cons (ps_set (i := 6) sc_parse_card.nd rfl (Or.inl rfl) (callD T.D_word_row_fault (ok_word_row_fault T) hr (pa_cons (pv 4) (pa_cons (pv 1) (pa_cons (pv 2) pa_nil)))))
    (pss_one (ps_expr (pe_bm PySem.F.plainAttrs_list PySem.F.slot_list_append PySem.F.type_list_append mt_append (pv 1) (pa_cons (pv 4) pa_nil)))))
    (pss_one (ps_if (pt_cmpR op_notN (pv 5) pe_non (nomark _))
    (pss_cons (ps_set (i := 6) sc_parse_card.nd rfl (Or.inl rfl) (callD T.D_slit_row_fault (ok_slit_row_fault T) hr (pa_cons (pv 5) (pa_cons (pv 1) (pa_cons (pv 2) pa_nil)))))
    (pss_one (ps_expr (pe_bm PySem.F.plainAttrs_list PySem.F.slot_list_append PySem.F.type_list_append mt_append (pv 2) (pa_cons (pv 5) pa_nil)))))
    (pss_one (ps_set (i := 6) sc_parse_card.nd rfl (Or.inl rfl) (pe_s (x := Str.ofString "row") [114, 111, 119] (by decide +kernel)))))))
    (pss_one (ps_if (pt_cmpR op_notN (pv 6) pe_non (nomark _))
    (pss_one (ps_raise rfl (takes_of rfl rfl rfl rfl) (pmk_oex T.x_BadText.oex T.x_BadText.ini T.x_BadText.tI (ok_BadText___init__ T) (hr.mono (by decide)) T.D_BadText___init__.b .nil pass0 (by rfl) T.x_BadText.g (pa_cons (pv 3) (pa_cons (pv 6) pa_nil)))))
    pss_nil)))))
    (pss_one (ps_ret (pe_cmethSK (pe_glob (v := .ref AD.C_Card) rfl T.g_Card rfl) T.cr_Card T.cm_Card_of_words (okK_Card_of_words T) (hr.mono (by decide)) (passUp (takes_of rfl rfl rfl rfl)) (pv 1) (pv 2)))))))), ?_⟩
    walk_at "go"
    refine ⟨_, _, _, _, true, rfl, .ty _, .base (.str _), kit_ty (by decide +kernel), ?_⟩
    walk_at "go"
    intro pw npw
    have s1 := same_new (o := .lst []) (Same.refl H) npw
    have epw : upd H pw (.lst []) pw = some (.lst []) := upd_same
    generalize upd H pw (.lst []) = H1 at s1 epw ⊢
    walk_at "go"
    intro ps nps
    have nps0 := s1.free nps
    have pwps : ps ≠ pw := fun z => by rw [z, epw] at nps; cases nps
    have s2 := s1.trans (same_new (o := .lst []) (Same.refl H1) nps)
    replace epw : upd H1 ps (.lst []) pw = _ := (upd_ne (Ne.symm pwps)).trans epw
    have eps : upd H1 ps (.lst []) ps = some (.lst []) := upd_same
    generalize upd H1 ps (.lst []) = H2 at s2 epw eps ⊢
    clear s1 nps
    have mM : ∀ m ∈ M, m.1 < 12 ∧ m.2 < 12 := fun m hm => by have := ok.ok m hm; omega
    have lt' : (txtOf W M).length + 2 ≤ sizeLine := txt_fits (by omega) ok.few mM fun l hl => by have := (gW l hl).len; omega
    walk_at "go"
    refine ⟨rfl, lt', ?_⟩
    rw [show Txt.split (txtOf W M) (sOf [10]) = (rowsL W M).map sOf from text_split n1 n6 gW w1 mM]
    intro pr npr
    have prw : pr ≠ pw := fun z => by rw [z, epw] at npr; cases npr
    have prs : pr ≠ ps := fun z => by rw [z, eps] at npr; cases npr
    have s3 := s2.trans (same_new (o := .lst (((rowsL W M).map sOf).map V.str)) (Same.refl H2) npr)
    replace epw : upd H2 pr (.lst (((rowsL W M).map sOf).map V.str)) pw = _ := (upd_ne (Ne.symm prw)).trans epw
    replace eps : upd H2 pr (.lst (((rowsL W M).map sOf).map V.str)) ps = _ := (upd_ne (Ne.symm prs)).trans eps
    have epr : upd H2 pr (.lst (((rowsL W M).map sOf).map V.str)) pr = _ := upd_same
    generalize upd H2 pr (.lst (((rowsL W M).map sOf).map V.str)) = H3 at s3 epw eps epr ⊢
    clear s2 npr
    have lR : (((rowsL W M).map sOf).map V.str).length = W.length + M.length := by rw [List.length_map, List.length_map, rowsL_len]
    refine ⟨pr, _, rfl, rfl, SqL.of epr, ?_⟩
    refine for_it (walk_enum1 (xs := ((rowsL W M).map sOf).map V.str)) (fun i σ H' => ∃ o3 o4 o5 o6 xs, σ = [some (.str (txtOf W M)), some (.ref pw), some (.ref ps), o3, o4, o5, o6] ∧ H' pw = some (.lst (strsV (W.take i))) ∧ H' ps = some (.lst xs) ∧ Prs H' xs (M.take (i - W.length)) ∧ H' pr = some (.lst (((rowsL W M).map sOf).map V.str)) ∧ Same H H')
      ⟨none, none, none, none, [], rfl, epw, eps, by rw [Nat.zero_sub, List.take_zero]; exact .nil, epr, s3⟩ (fun i σ H' _ ⟨_, _, _, _, _, _, _, _, _, e, _⟩ => SqL.of e) ?_ ?_
    · rintro i z σ Ha Hb hi ⟨o3, o4, o5, o6, xs, rfl, e1, e2, hM, e3, s4⟩ ⟨T0, y1, y2, rfl, nT, rfl, ey1, ey2⟩
      cases ey1
      have sT := same_new (o := .tup [.int (i + 1 : Nat), y2]) (Same.refl Ha) nT
      refine ⟨T0, [.int (i + 1 : Nat), y2], rfl, SqT.of upd_same, rfl, _, _, rfl, _, _, rfl, rfl, ?_⟩
      replace e1 := sT _ _ e1
      replace e2 := sT _ _ e2
      replace e3 := sT _ _ e3
      replace hM := hM.mono sT
      replace s4 := s4.trans sT
      generalize upd Ha T0 (.tup [.int (i + 1 : Nat), y2]) = Hc at e1 e2 e3 hM s4 ⊢
      clear nT sT
      by_cases hW : i < W.length
      · have hl : W[i]? = some W[i] := List.getElem?_eq_getElem hW
        have g := gW.at hl
        generalize W[i] = l at hl g
        obtain rfl : y2 = .str (sOf l) := by
          dsimp only at ey2
          rw [List.getElem?_map, List.getElem?_map] at ey2
          unfold rowsL at ey2
          rw [List.getElem?_append_left hW, hl] at ey2
          exact (Option.some.inj ey2).symm
        walk_at "go"
        refine .inr ⟨n, g, n1, n6, fun H5 s5 => ?_⟩
        have gl := g.len
        walk_at "go"
        refine fun H6 s6 => ?_
        have wl := Good.by g n1 n6 _ word_nl0
        rw [Bool.and_eq_true] at wl
        rw [wl.2]
        walk_at "go"
        have s56 := s5.trans s6
        have i0 : i - W.length = 0 := by omega
        rw [i0, List.take_zero] at hM
        have hx : xs = [] := by cases hM; rfl
        subst hx
        refine ⟨pw, ps, l, W.take i, n, rfl, s56 _ _ e1, s56 _ _ e2, g, fun a ha => gW a (List.mem_of_mem_take ha), n1, n6, by rw [List.length_take]; omega, fun H7 s7 => ?_⟩
        replace s56 := s56.trans s7
        replace e1 := s56 _ _ e1
        replace e2 := s56 _ _ e2
        replace e3 := s56 _ _ e3
        replace s4 := s4.trans s56
        clear s5 s6 s7 s56
        walk_at "go"
        refine ⟨pw, _, _, rfl, rfl, e1, small1000 (by rw [strsV_len, List.length_take]; omega), ?_⟩
        walk_at "go"
        refine ⟨_, _, _, _, [], rfl, ?_, (upd_ne pwps).trans e2, ?_, (upd_ne prw).trans e3, fun a o e => ?_⟩
        · rw [upd_same, strsV_snoc, List.take_add_one, hl]
          rfl
        · rw [show i + 1 - W.length = 0 by omega, List.take_zero]
          exact .nil
        · exact (upd_ne (fun z => by rw [z, npw] at e; cases e)).trans (s4 _ _ e)
      · have hj : i - W.length < M.length := by omega
        have hm : M[i - W.length]? = some M[i - W.length] := List.getElem?_eq_getElem hj
        have mk := mM _ (List.getElem_mem hj)
        have mok := ok.ok _ (List.getElem_mem hj)
        have last : ∀ k, (M.take (i - W.length)).getLast? = some k → k.1 < M[i - W.length].1 ∨ (k.1 = M[i - W.length].1 ∧ k.2 < M[i - W.length].2) := fun k hk => before_of srt ok.nd hj hk
        generalize M[i - W.length] = m at hm mk mok last
        obtain rfl : y2 = .str (sOf (slitL m)) := by
          dsimp only at ey2
          rw [List.getElem?_map, List.getElem?_map] at ey2
          unfold rowsL at ey2
          rw [List.getElem?_append_right (by omega), List.getElem?_map, hm] at ey2
          exact (Option.some.inj ey2).symm
        rw [List.take_of_length_le (by omega)] at e1
        walk_at "go"
        refine fun tm H5 s5 ntm etm => ?_
        replace e1 := s5 _ _ e1
        replace e2 := s5 _ _ e2
        replace e3 := s5 _ _ e3
        replace hM := hM.mono s5
        replace s4 := s4.trans s5
        clear s5 ntm
        have rn := by12 row_not0 mk.1 mk.2
        simp only [Bool.and_eq_true, decide_eq_true_eq] at rn
        have len11 := rn.1.2
        walk_at "go"
        refine ⟨Nat.le_trans len11 (by decide), fun H6 s6 => ?_⟩
        rw [show (!(slitL m).isEmpty && ltrs (slitL m)) = false from by
          cases hb : (!(slitL m).isEmpty && ltrs (slitL m)) with
          | false => rfl
          | true => exact absurd ((Bool.and_eq_true _ _).mp hb) (by simpa using rn.1.1)]
        replace e1 := s6 _ _ e1
        replace e2 := s6 _ _ e2
        replace e3 := s6 _ _ e3
        replace hM := hM.mono s6
        replace etm := s6 _ _ etm
        replace s4 := s4.trans s6
        clear s6
        walk_at "go"
        refine ⟨tm, pw, ps, m, W, xs, M.take (i - W.length), n, rfl, etm, e1, e2, hM, gW, n1, n6, w1, w12, last, mok, fun H7 s7 => ?_⟩
        replace e1 := s7 _ _ e1
        replace e2 := s7 _ _ e2
        replace e3 := s7 _ _ e3
        replace hM := hM.mono s7
        replace etm := s7 _ _ etm
        replace s4 := s4.trans s7
        clear s7
        have lx := hM.len
        have few := ok.few
        walk_at "go"
        refine ⟨ps, _, _, rfl, rfl, e2, small1000 (by rw [lx, List.length_take]; omega), ?_⟩
        walk_at "go"
        refine ⟨_, _, _, _, xs ++ [.ref tm], rfl, ?_, upd_same, ?_, (upd_ne prs).trans e3, fun a o e => ?_⟩
        · rw [List.take_of_length_le (by omega)]
          exact (upd_ne (Ne.symm pwps)).trans e1
        · rw [show i + 1 - W.length = i - W.length + 1 by omega, List.take_add_one, hm]
          exact Prs.snoc ((upd_ne (fun z => by rw [z, e2] at etm; cases etm)).trans etm) (hM.keep (o := .lst []) (fun m z => by rw [e2] at z; cases z) fun b o nb e => (upd_ne nb).trans e)
        · exact (upd_ne (fun z => by rw [z, nps0] at e; cases e)).trans (s4 _ _ e)
    · rintro σ Ha ⟨o3, o4, o5, o6, xs, rfl, e1, e2, hM, e3, s4⟩
      rw [lR] at e1 hM
      rw [List.take_of_length_le (by omega)] at e1
      rw [Nat.add_sub_cancel_left, List.take_length] at hM
      walk_at "go"
      refine ⟨pw, strsV W, rfl, .inr (SqL.of e1), V.ref AD.C_Card, strsV W, rfl, szl (by rw [strsV_len]; show _ ≤ 1000; omega), fun p np => ?_⟩
      have sp := same_new (o := .tup (strsV W)) (Same.refl Ha) np
      exact ⟨p, ps, W, xs, M, n, rfl, upd_same, gW, ⟨w1, w12⟩, ⟨n1, n6⟩, sp _ _ e2, hM.mono sp, ok, fun x H' s' nx cx => q x H' ((s4.trans sp).trans s') ((s4.trans sp).free nx) cx⟩
end

/-! ### a card without marks: an empty tuple is handed in -/
section
variable {P : Program} {w : World} {K : PySem.W.Frag} {mg : Str → Option Value} {base : Heap} {AD : Ads}
/-- a constant empty tuple -/
def Emp (K : PySem.W.Frag) (t : Addr) : Prop := ∃ (o : Obj) (n : Nat), K.lookup t = some o ∧ o.cls = .type "tuple" ∧ o.data = .seq #[] n
theorem Emp.sq {K : PySem.W.Frag} {t : Addr} (e : Emp K t) (H : Hp) : SqT K H t [] := let ⟨o, n, a, b, c⟩ := e; .inr ⟨o, #[], n, a, b, c, Nat.zero_le _, .nil⟩
def spIsSeq0 (K : PySem.W.Frag) : Sp := fun vs H Q _ => ∃ p, vs = [.ref p] ∧ Emp K p ∧ ∀ H', Same H H' → Q (.bl true) H'
theorem ok_is_sequence0 (T : Top K mg AD) : FnOk P w K mg base CX0 1 AD.f_is_sequence AD.d_is_sequence P_is_sequence (spIsSeq0 K) := by
  refine T.D_is_sequence.F.ok sc_is_sequence (fun vs H Q E h => ?_) (fun cdv A outer s H vs Q E hr h => ?_)
  · obtain ⟨v, rfl, _⟩ := h
    rfl
  · obtain ⟨p, rfl, ⟨o, n, a, b, c⟩, q⟩ := h
    refine ⟨_, (pss_one (ps_ret (pe_callB (call_isiTK (K := K) rfl) (by rfl) T.b_isinstance (by decide +kernel) (pa_cons (pv 0) (pa_cons (pe_tup (pa_cons (pe_bltn (v := .ty "list") (u := .type "list") (by rfl) T.b_list (by decide +kernel) rfl) (pa_cons (pe_bltn (v := .ty "tuple") (u := .type "tuple") (by rfl) T.b_tuple (by decide +kernel) rfl) pa_nil))) pa_nil))))), ?_⟩
    walk_at "go"
    refine ⟨szl (by show 2 ≤ 1000; decide), fun tp htp => ?_⟩
    walk_at "go"
    have s1 := same_new (o := .tup [.ty "list", .ty "tuple"]) (Same.refl H) htp
    exact ⟨_, tp, _, _, _, true, rfl, upd_same, .cons (.ty _) (.cons (.ty _) .nil), .kTuple a b, any_tl (kit_ty (by decide +kernel)) (any_hd (kit_ty (by decide +kernel))), q _ s1⟩
def spNewMarks0 (K : PySem.W.Frag) : Sp := fun vs H Q _ => ∃ ml tk, ∃ n wd : Nat, vs = [.ref ml, .int n, .int wd, .ref tk] ∧ Emp K ml ∧ H tk = some (.tup []) ∧ ∀ f zs H', Same H H' → H f = none → H' f = some (.lst zs) → Prs H' zs [] → Q (.ref f) H'
theorem ok_new_marks0 (T : Top K mg AD) : FnOk P w K mg base (L2.CX P w) 4 AD.f_new_marks AD.d_new_marks P_new_marks (spNewMarks0 K) := by
  refine T.D_new_marks.F.okX sc_new_marks (fun vs H Q E h => ?_) (fun cdv A outer s H vs Q E hr h => ?_)
  · obtain ⟨ml, tk, n, wd, rfl, _⟩ := h
    rfl
  · obtain ⟨ml, tk, n, wd, rfl, em, et, q⟩ := h
    refine ⟨_, (pss_cons (ps_if (pt_not (pt_val (callD T.D_is_sequence (ok_is_sequence0 T) hr (pa_cons (pv 0) pa_nil))))
    (pss_one (ps_raise rfl (takes_of rfl rfl rfl rfl) (pmk_oex T.x_BadCard.oex T.x_BadCard.ini T.x_BadCard.tI (ok_BadCard___init__ T) (hr.mono (by decide)) T.D_BadCard___init__.b .nil pass0 (by rfl) T.x_BadCard.g (pa_cons pe_int (pa_cons (pe_s (x := Str.ofString "marks") [109, 97, 114, 107, 115] (by decide +kernel)) pa_nil)))))
    pss_nil)
    (pss_cons (ps_set (i := 4) sc_new_marks.nd rfl (Or.inl rfl) (pe_lst pa_nil))
    (pss_cons (ps_for (passes_of rfl) rfl (pi_enumQ (K := K) (by rfl) (by rfl) T.b_enumerate (pa_cons (pv 0) pa_nil)) (pg_tup (by rfl) (pgs_cons (pg_name (i := 5) sc_new_marks.nd rfl (Or.inl rfl)) (pgs_cons (pg_name (i := 6) sc_new_marks.nd rfl (Or.inl rfl)) pgs_nil)))
    (pss_cons (ps_set (i := 7) sc_new_marks.nd rfl (Or.inl rfl) (callD T.D_mark_of (ok_mark_of T) hr (pa_cons (pv 6) (pa_cons (pv 1) (pa_cons (pv 2) pa_nil)))))
    (pss_cons (ps_if (pt_cmpR op_isN (pv 7) pe_non (nomark _))
    (pss_one (ps_raise rfl (takes_of rfl rfl rfl rfl) (pmk_oex T.x_BadCard.oex T.x_BadCard.ini T.x_BadCard.tI (ok_BadCard___init__ T) (hr.mono (by decide)) T.D_BadCard___init__.b .nil pass0 (by rfl) T.x_BadCard.g (pa_cons (pv 5) (pa_cons (pe_s (x := Str.ofString "mark") [109, 97, 114, 107] (by decide +kernel)) pa_nil)))))
    pss_nil)
    (pss_cons (ps_if (PW.pt (pw_or (pt_cmpR (op_inDT (K := K) rfl (Sl.Room.units65 hr)) (pv 7) (pv 3) (by rfl)) (pw_or1 (pt_cmpR (op_inDK (K := K) rfl (Sl.Room.units65 hr)) (pv 7) (pv 4) (by rfl)))))
    (pss_one (ps_raise rfl (takes_of rfl rfl rfl rfl) (pmk_oex T.x_BadCard.oex T.x_BadCard.ini T.x_BadCard.tI (ok_BadCard___init__ T) (hr.mono (by decide)) T.D_BadCard___init__.b .nil pass0 (by rfl) T.x_BadCard.g (pa_cons (pv 5) (pa_cons (pe_s (x := Str.ofString "double") [100, 111, 117, 98, 108, 101] (by decide +kernel)) pa_nil)))))
    pss_nil)
    (pss_one (ps_expr (pe_bm PySem.F.plainAttrs_list PySem.F.slot_list_append PySem.F.type_list_append mt_append (pv 4) (pa_cons (pv 7) pa_nil))))))))
    (pss_one (ps_ret (pv 4)))))), ?_⟩
    walk_at "go"
    refine ⟨em, fun H1 s1 => ?_⟩
    walk_at "go"
    intro f nf
    have ef : upd H1 f (.lst []) f = some (.lst []) := upd_same
    have s2 := s1.trans (same_new (o := .lst []) (Same.refl H1) nf)
    generalize upd H1 f (.lst []) = H2 at ef s2 ⊢
    walk_at "go"
    refine ⟨ml, [], rfl, .inr ⟨em.sq H2, for_it (walk_enumT (xs := [])) (fun i σ H' => σ = [some (.ref ml), some (.int n), some (.int wd), some (.ref tk), some (.ref f), none, none, none] ∧ H' = H2) ⟨rfl, rfl⟩ (fun i σ H' _ _ => em.sq H') ?_ ?_⟩⟩
    · intro i x σ H3 H4 hi
      exact absurd hi (Nat.not_lt_zero _)
    · rintro σ H3 ⟨rfl, rfl⟩
      walk_at "go"
      exact q f [] H3 s2 (s1.free nf) ef .nil
def spCard0 (K : PySem.W.Frag) (AD : Ads) : Sp := fun vs H Q _ => ∃ x dx cl ys W ml n, vs = [.ref x, .ref cl, .ref ml] ∧ H x = some (.ins AD.C_Card dx []) ∧ H cl = some (.lst (refsV ys)) ∧ ColsAt AD.C_Column H ys W ∧ GoodW W n ∧ (1 ≤ W.length ∧ W.length ≤ 12) ∧ (1 ≤ n ∧ n ≤ 6) ∧
  Emp K ml ∧ ∀ H', But x H H' → CardAt AD H' x W [] n → Q .non H'
theorem ok_Card_init0 (T : Top K mg AD) : FnOk P w K mg base (L2.CX P w) 6 AD.f_Card___init__ AD.d_Card___init__ P_Card___init__ (spCard0 K AD) := by
  refine T.D_Card___init__.F.okX sc_Card___init__ (fun vs H Q E h => ?_) (fun cdv A outer s H vs Q E hr h => ?_)
  · obtain ⟨x, dx, cl, ys, W, ml, n, rfl, _⟩ := h
    rfl
  · obtain ⟨x, dx, cl, ys, W, ml, n, rfl, ex, ec, cs, gW, ⟨w1, w12⟩, ⟨n1, n6⟩, em, q⟩ := h
    have clC := T.cl_Column
    have nz := T.n_Column_size
    have nw := T.n_Column_word
    have yl := cs.len
    refine ⟨_, (pss_cons (ps_expr (callU T.D_check_columns (ok_check_columns T) hr (takes_of rfl rfl rfl rfl) (pa_cons (pv 1) pa_nil)))
    (pss_cons (ps_fld (pv 0) (pe_callTy call_tuple_of (by rfl) T.b_tuple (by decide +kernel) (pa_cons (pv 1) pa_nil)) rfl)
    (pss_cons (ps_fld (pv 0) (pe_fld (pe_ix (ix_Q (K := K) rfl) (pv 1) pe_int (fun _ _ => rfl)) rfl) rfl)
    (pss_cons (ps_fld (pv 0) (pe_callB (call_lenQ (K := K) rfl) (by rfl) T.b_len (by decide +kernel) (pa_cons (pv 1) pa_nil)) rfl)
    (pss_cons (ps_fld (pv 0) (pe_callTy call_tuple_of (by rfl) T.b_tuple (by decide +kernel) (pa_cons (pe_lc (own := [("column", 3)]) (g := (gName 3)) (tt := tYes) rfl sc_Card___init__.nd (pi_seqQ (K := K) (by rfl) (pv 1)) (blkOk_by (N := N_Card___init__) (sc := defScope s_Card___init__) (by decide +kernel)) (fun _ _ _ _ _ => (pg_name (i := 3) sc_Card___init__.nd rfl (by first | exact Or.inl rfl | exact Or.inr rfl))) (fun _ _ _ _ _ => pts_nil) (fun _ _ _ _ _ => (pe_fldK (K := K) (by rfl) (pv 3) rfl))) pa_nil)) rfl)
    (pss_one (ps_fld (pv 0) (pe_callTy call_tuple_of (by rfl) T.b_tuple (by decide +kernel) (pa_cons (pe_callB cr_sortedPO (by rfl) T.b_sorted (by decide +kernel) (pa_cons (callU T.D_new_marks (ok_new_marks0 T) hr (takes_of rfl rfl rfl rfl) (pa_cons (pv 2) (pa_cons (pe_fld (pv 0) rfl) (pa_cons (pe_fld (pv 0) rfl) (pa_cons (pe_tup pa_nil) pa_nil))))) pa_nil)) pa_nil)) rfl))))))), ?_⟩
    have nx : ∀ l, ¬ ColAt AD.C_Column H x l := fun l ⟨d, e⟩ => by rw [ex] at e; exact absurd (HO.ins.inj (Option.some.inj e)).2.2 (by simp)
    have nm : ∀ m, H x ≠ some (mT m) := fun m e => by rw [ex] at e; cases e
    have clx : cl ≠ x := fun z => by rw [z, ex] at ec; cases ec
    have clA := T.cl_Card
    obtain ⟨l0, hl0⟩ : ∃ l0, W[0]? = some l0 := ⟨_, List.getElem?_eq_getElem (by omega)⟩
    walk_at "go"
    refine ⟨cl, ys, W, n, rfl, ec, cs, gW, ⟨w1, w12⟩, fun H1 s1 => ?_⟩
    have B1 : But x H H1 := fun b o _ h => s1 b o h
    have ex1 := s1 _ _ ex
    clear s1
    walk_at "go"
    refine ⟨cl, _, rfl, .inl ⟨SqL.of (B1 _ _ clx ec), fun tc ntc => ?_⟩⟩
    have tcx : tc ≠ x := fun z => by rw [z, ex1] at ntc; cases ntc
    have s := same_new (o := .tup (refsV ys)) (Same.refl H1) ntc
    have B2 : But x H (upd H1 tc (.tup (refsV ys))) := fun b o nb h => s b o (B1 b o nb h)
    have ex2 := s _ _ ex1
    have etc : upd H1 tc (.tup (refsV ys)) tc = some (.tup (refsV ys)) := upd_same
    generalize upd H1 tc (.tup (refsV ys)) = H2 at B2 ex2 etc ⊢
    clear s ntc B1 ex1
    walk_at "go"
    refine ⟨x, _, dx, _, rfl, ex2, T.cl_Card, T.n_Card_columns, by show 0 < 1000; decide, ?_⟩
    have ex3 : upd H2 x (.ins AD.C_Card dx (putF "columns" (.ref tc) [])) x = some (.ins AD.C_Card dx [("columns", .ref tc)]) := upd_same
    replace B2 : But x H (upd H2 x (.ins AD.C_Card dx (putF "columns" (.ref tc) []))) := But.upd B2
    replace etc : upd H2 x (.ins AD.C_Card dx (putF "columns" (.ref tc) [])) tc = _ := (upd_ne tcx).trans etc
    generalize upd H2 x (.ins AD.C_Card dx (putF "columns" (.ref tc) [])) = H3 at B2 ex3 etc ⊢
    clear ex2
    have ex2 := ex3
    clear ex3
    obtain ⟨y0, hy0, c0⟩ := (cs.but nx B2).at hl0
    obtain ⟨d0, e0⟩ := c0
    have ec3 : Seq2 K H3 cl (refsV ys) := .inl (B2 _ _ clx ec)
    walk_at "go"
    refine ixQ_of (i := 0) ec3 (atI_nat (j := 0) (refsV_at hy0)) ?_
    walk_at "go"
    rw [(gW.at hl0).cnt]
    refine ⟨x, _, dx, _, rfl, ex2, T.cl_Card, T.n_Card_size, by show 1 < 1000; decide, ?_⟩
    clear e0 ec3 hy0
    have ex3 : upd H3 x (.ins AD.C_Card dx (putF "size" (.int (n : Nat)) [("columns", .ref tc)])) x = some (.ins AD.C_Card dx [("columns", .ref tc), ("size", .int (n : Nat))]) := upd_same
    replace B2 : But x H (upd H3 x (.ins AD.C_Card dx (putF "size" (.int (n : Nat)) [("columns", .ref tc)]))) := But.upd B2
    replace etc : upd H3 x (.ins AD.C_Card dx (putF "size" (.int (n : Nat)) [("columns", .ref tc)])) tc = _ := (upd_ne tcx).trans etc
    generalize upd H3 x (.ins AD.C_Card dx (putF "size" (.int (n : Nat)) [("columns", .ref tc)])) = H4 at B2 ex3 etc ⊢
    clear ex2
    have ex2 := ex3
    clear ex3
    have ec4 : Seq2 K H4 cl (refsV ys) := .inl (B2 _ _ clx ec)
    walk_at "go"
    refine ⟨cl, _, rfl, ec4.q, ?_⟩
    rw [refsV_len, yl]
    walk_at "go"
    refine ⟨x, _, dx, _, rfl, ex2, T.cl_Card, T.n_Card_width, by show 2 < 1000; decide, ?_⟩
    clear ec4
    have ex3 : upd H4 x (.ins AD.C_Card dx (putF "width" (.int (W.length : Nat)) [("columns", .ref tc), ("size", .int (n : Nat))])) x = some (.ins AD.C_Card dx [("columns", .ref tc), ("size", .int (n : Nat)), ("width", .int (W.length : Nat))]) := upd_same
    replace B2 : But x H (upd H4 x (.ins AD.C_Card dx (putF "width" (.int (W.length : Nat)) [("columns", .ref tc), ("size", .int (n : Nat))]))) := But.upd B2
    replace etc : upd H4 x (.ins AD.C_Card dx (putF "width" (.int (W.length : Nat)) [("columns", .ref tc), ("size", .int (n : Nat))])) tc = _ := (upd_ne tcx).trans etc
    generalize upd H4 x (.ins AD.C_Card dx (putF "width" (.int (W.length : Nat)) [("columns", .ref tc), ("size", .int (n : Nat))])) = H5 at B2 ex3 etc ⊢
    clear ex2
    have ex2 := ex3
    clear ex3
    walk_at "go"
    refine ⟨cl, _, rfl, .inl ⟨SqL.of (B2 _ _ clx ec), ?_⟩⟩
    intro D hD
    have cs5 := cs.but nx B2
    refine lc_it (walk_list (xs := refsV ys)) (fun i H' => But D H5 H' ∧ H' D = some (.lst (strsV (W.take i)))) ⟨But.upd (But.refl _ _), by rw [List.take_zero]; exact upd_same⟩
      (fun i H' hi h => SqL.of (same_but (Same.refl _) hD h.1 _ _ (B2 _ _ clx ec))) ?_ ?_
    · rintro i z Ha Hb hi ⟨b2, e3⟩ ⟨rfl, ez⟩
      obtain ⟨y, hy, rfl⟩ := refsV_un ez
      obtain ⟨l, hl, cy⟩ := cs5.at2 hy
      obtain ⟨d, ey⟩ := cy.mono (same_but (Same.refl _) hD b2 y)
      have fits : (strsV (W.take i)).length < sizeLine := small1000 (by rw [strsV_len]; have := List.length_take_le' i W; omega)
      walk_at "go"
      refine ⟨_, e3, fits, But.upd b2, ?_⟩
      rw [upd_same, strsV_snoc, List.take_add_one, hl]
      rfl
    rintro H6 ⟨b6, e6⟩
    rw [refsV_len, yl, List.take_length] at e6
    have s6 := same_but (Same.refl _) hD b6
    replace B2 : But x H H6 := fun b o nb h => s6 b o (B2 b o nb h)
    replace ex2 := s6 _ _ ex2
    replace etc := s6 _ _ etc
    clear s6 b6 hD cs5
    walk_at "go"
    refine ⟨D, _, rfl, .inl ⟨SqL.of e6, fun tw ntw => ?_⟩⟩
    have twx : tw ≠ x := fun z => by rw [z, ex2] at ntw; cases ntw
    have s := same_new (o := .tup (strsV W)) (Same.refl H6) ntw
    replace B2 : But x H (upd H6 tw (.tup (strsV W))) := fun b o nb h => s b o (B2 b o nb h)
    replace ex2 := s _ _ ex2
    replace etc := s _ _ etc
    have etw : upd H6 tw (.tup (strsV W)) tw = some (.tup (strsV W)) := upd_same
    generalize upd H6 tw (.tup (strsV W)) = H7 at B2 ex2 etc etw ⊢
    clear s ntw e6
    walk_at "go"
    refine ⟨x, _, dx, _, rfl, ex2, T.cl_Card, T.n_Card_words, by show 3 < 1000; decide, ?_⟩
    have ex3 : upd H7 x (.ins AD.C_Card dx (putF "words" (.ref tw) [("columns", .ref tc), ("size", .int (n : Nat)), ("width", .int (W.length : Nat))])) x = some (.ins AD.C_Card dx [("columns", .ref tc), ("size", .int (n : Nat)), ("width", .int (W.length : Nat)), ("words", .ref tw)]) := upd_same
    replace B2 : But x H (upd H7 x (.ins AD.C_Card dx (putF "words" (.ref tw) [("columns", .ref tc), ("size", .int (n : Nat)), ("width", .int (W.length : Nat))]))) := But.upd B2
    replace etc : upd H7 x (.ins AD.C_Card dx (putF "words" (.ref tw) [("columns", .ref tc), ("size", .int (n : Nat)), ("width", .int (W.length : Nat))])) tc = _ := (upd_ne tcx).trans etc
    replace etw : upd H7 x (.ins AD.C_Card dx (putF "words" (.ref tw) [("columns", .ref tc), ("size", .int (n : Nat)), ("width", .int (W.length : Nat))])) tw = _ := (upd_ne twx).trans etw
    generalize upd H7 x (.ins AD.C_Card dx (putF "words" (.ref tw) [("columns", .ref tc), ("size", .int (n : Nat)), ("width", .int (W.length : Nat))])) = H8 at B2 ex3 etc etw ⊢
    clear ex2
    have ex2 := ex3
    clear ex3
    have n1' := T.n_Card_size
    have n2' := T.n_Card_width
    walk_at "go"
    intro tk ntk
    have s := same_new (o := .tup []) (Same.refl H8) ntk
    replace B2 : But x H (upd H8 tk (.tup [])) := fun b o nb h => s b o (B2 b o nb h)
    replace ex2 := s _ _ ex2
    replace etc := s _ _ etc
    replace etw := s _ _ etw
    have etk : upd H8 tk (.tup []) tk = some (.tup []) := upd_same
    generalize upd H8 tk (.tup []) = H9 at B2 ex2 etc etw etk ⊢
    clear s ntk
    walk_at "go"
    refine ⟨ml, tk, n, W.length, rfl, em, etk, fun f zs H10 s nf ef hz => ?_⟩
    replace B2 : But x H H10 := fun b o nb h => s b o (B2 b o nb h)
    replace ex2 := s _ _ ex2
    replace etc := s _ _ etc
    replace etw := s _ _ etw
    clear s nf etk
    walk_at "go"
    refine ⟨f, zs, keyOf H10, rfl, SqL.of ef, fun z hz2 => ?_, fun zs2 p2 sd st np2 => ?_⟩
    · obtain ⟨T, m, rfl, _, e⟩ := hz.mem hz2
      exact ⟨T, rfl, by rw [keyOf_at e]; exact e⟩
    obtain ⟨N, hN, pN⟩ := hz.perm st.perm
    have sN := hN.sorted sd
    have s := same_new (o := .lst zs2) (Same.refl H10) np2
    replace B2 : But x H (upd H10 p2 (.lst zs2)) := fun b o nb h => s b o (B2 b o nb h)
    replace ex2 := s _ _ ex2
    replace etc := s _ _ etc
    replace etw := s _ _ etw
    replace hN := hN.mono s
    have ep2 : upd H10 p2 (.lst zs2) p2 = some (.lst zs2) := upd_same
    generalize upd H10 p2 (.lst zs2) = H11 at B2 ex2 etc etw hN ep2 ⊢
    clear s np2 ef hz
    walk_at "go"
    refine ⟨p2, _, rfl, .inl ⟨SqL.of ep2, fun tm ntm => ?_⟩⟩
    have tmx : tm ≠ x := fun z => by rw [z, ex2] at ntm; cases ntm
    have s := same_new (o := .tup zs2) (Same.refl H11) ntm
    replace B2 : But x H (upd H11 tm (.tup zs2)) := fun b o nb h => s b o (B2 b o nb h)
    replace ex2 := s _ _ ex2
    replace etc := s _ _ etc
    replace etw := s _ _ etw
    replace hN := hN.mono s
    have etm : upd H11 tm (.tup zs2) tm = some (.tup zs2) := upd_same
    generalize upd H11 tm (.tup zs2) = H12 at B2 ex2 etc etw hN etm ⊢
    clear s ntm ep2
    walk_at "go"
    refine ⟨x, _, dx, _, rfl, ex2, T.cl_Card, T.n_Card_marks, by show 4 < 1000; decide, ?_⟩
    refine q _ (But.upd B2) ⟨dx, tc, tw, tm, ys, zs2, N, upd_same, (upd_ne tcx).trans etc, cs.but nx (But.upd B2), (upd_ne twx).trans etw, (upd_ne tmx).trans etm, ?_, pN, sN⟩
    exact hN.keep (o := .lst []) (fun m e => by rw [ex2] at e; cases e) fun c o nc h => (upd_ne nc).trans h
end

/-! ### Card.of_words without marks -/
section
variable {P : Program} {w : World} {K : PySem.W.Frag} {mg : Str → Option Value} {base : Heap} {AD : Ads}
def spOfWB0 (K : PySem.W.Frag) (AD : Ads) : Sp := fun vs H Q _ => ∃ wt ml W n, vs = [.ref AD.C_Card, .ref ml, .ref wt] ∧ H wt = some (.tup (strsV W)) ∧ GoodW W n ∧ (1 ≤ W.length ∧ W.length ≤ 12) ∧ (1 ≤ n ∧ n ≤ 6) ∧ Emp K ml ∧
  ∀ x H', Same H H' → H x = none → CardAt AD H' x W [] n → Q (.ref x) H'
def spOfW0 (K : PySem.W.Frag) (AD : Ads) : Sp := fun vs H Q E => ∃ c rest, vs = c :: rest ∧ rest.length ≤ sizeLine ∧ ∀ p, H p = Option.none → spOfWB0 K AD [c, V.ref AD.te_Card_of_words, V.ref p] (upd H p (.tup rest)) Q E
theorem okR_Card_of_words (T : Top K mg AD) : FnR P w K mg base (L2.CX P w) 9 AD.f_Card_of_words (spOfW0 K AD) := by
  refine T.D_Card_of_words.fnR (N := N_Card_of_words) (sp := spOfWB0 K AD) sc_Card_of_words StX.cxUp ?_ ?_
  · intro D doc pm an cdv ct c m rest
    cases rest <;> exact ⟨_, _, _, _, _, _, rfl, rfl, rfl⟩
  · intro cdv A outer s H vs Q E hr h
    obtain ⟨wt, ml, W, n, rfl, ewk0, gW, ⟨w1, w12⟩, ⟨n1, n6⟩, em, q⟩ := h
    refine ⟨_, (pss_cons (ps_setLc (i := 3) (own := [("word", 4)]) (g := (gName 4)) (tt := tYes) rfl sc_Card_of_words.nd rfl rfl (sw_true rfl rfl rfl (by decide +kernel)) (pi_tup (pv 2)) (blkOk_by (N := N_Card_of_words) (sc := defScope s_Card_of_words) (by decide +kernel)) (fun _ _ _ _ _ => (pg_name (i := 4) sc_Card_of_words.nd rfl (by first | exact Or.inl rfl | exact Or.inr rfl))) (fun _ _ _ _ _ => pts_nil) (fun _ _ _ _ _ => (pe_makeS (E := fun _ => E0) T.mk_Column (ok_Column___init__ T) (hr.mono (by decide)) (by rfl) T.g_Column T.D_Column___init__.b (fun σ => passAt takes0 σ) (pa_cons (pv 4) pa_nil))))
    (pss_one (ps_ret (pe_makeLS (E := fun _ => E0) 0 T.mk_Card (ok_Card_init0 T) (hr.mono (by decide)) T.D_Card___init__.b (fun σ => passAt takes0 σ) (pa_cons (pv 3) (pa_cons (pv 1) pa_nil)))))), ?_⟩
    have ewk : H wt = some (.tup (strsV W)) ∧ True := ⟨ewk0, trivial⟩
    clear ewk0
    walk_at "go"
    refine ⟨⟨_, SqT.of ewk.1⟩, ?_⟩
    intro D hD
    refine lc_it (walk_tup (xs := strsV W)) (fun i H' => ∃ ys, But D H H' ∧ H' D = some (.lst (refsV ys)) ∧ ColsAt AD.C_Column H' ys (W.take i)) ⟨[], But.upd (But.refl _ _), upd_same, by rw [List.take_zero]; exact .nil⟩
      (fun i H' hi ⟨_, b, _⟩ => SqT.of (same_but (Same.refl _) hD b _ _ ewk.1)) ?_ ?_
    · rintro i z Ha Hb hi ⟨ys, b2, e2, cs⟩ ⟨rfl, ez⟩
      obtain ⟨l, hl, rfl⟩ : ∃ l, W[i]? = some l ∧ z = .str (sOf l) := by
        unfold strsV at ez
        rw [List.getElem?_map] at ez
        cases h : W[i]? with
        | none => rw [h] at ez; cases ez
        | some l => rw [h] at ez; exact ⟨l, rfl, (Option.some.inj ez).symm⟩
      have gl := gW.at hl
      have ll := gl.len
      have yl := cs.len
      have tl := List.length_take_le' i W
      walk_at "go"
      refine fun y dy ny ndy ne => col_made (good_fault gl n1 n6) (by omega) ny ndy ne fun H3 s3 c3 => ?_
      have e3 := s3 _ _ e2
      refine ⟨_, e3, small1000 (by rw [refsV_len]; omega), ys ++ [y], But.upd fun b o nb h => s3 b o (b2 b o nb h), ?_, ?_⟩
      · rw [upd_same]
        simp [refsV]
      · rw [List.take_add_one, hl]
        refine ColsAt.but (x := D) (fun l ⟨d, z⟩ => by rw [e3] at z; cases z) (H := H3) (fun b o nb h => (upd_ne nb).trans h) ?_
        exact ColsAt.snoc c3 (cs.mono s3)
    · rintro H2 ⟨ys, b2, e2, cs⟩
      rw [strsV_len, List.take_length] at cs
      have s2 := same_but (Same.refl _) hD b2
      walk_at "go"
      intro x dx nx ndx ne
      have s3 : Same H2 (upd (upd H2 dx (.own x)) x (.ins AD.C_Card dx [])) := same_new (same_new (Same.refl H2) ndx) ((upd_ne (Ne.symm ne)).trans nx)
      refine ⟨x, dx, D, ys, W, ml, n, rfl, upd_same, s3 _ _ e2, cs.mono s3, gW, ⟨w1, w12⟩, ⟨n1, n6⟩, em, fun H' b3 c3 => ⟨rfl, ?_⟩⟩
      exact q x H' (fun b o e => b3 b o (ne_of_none (s2 _ _ e) nx) (s3 _ _ (s2 _ _ e))) (s2.free nx) c3
end

/-! ### == of cards -/
theorem eqvAll_map {α : Type} [DecidableEq α] (f : α → PyData) (hf : ∀ a b, PyData.eqv (f a) (f b) = decide (a = b)) : ∀ A B : List α, PyData.eqvAll (A.map f) (B.map f) = decide (A = B)
  | [], [] => by simp [PyData.eqvAll]
  | [], _ :: _ => by simp [PyData.eqvAll]
  | _ :: _, [] => by simp [PyData.eqvAll]
  | a :: A, b :: B => by
    rw [List.map_cons, List.map_cons, PyData.eqvAll, hf, eqvAll_map f hf A B]
    by_cases h1 : a = b <;> by_cases h2 : A = B <;> simp [h1, h2]
def wdD (l : List Nat) : PyData := .str (sOf l)
theorem wdD_eqv (a b : List Nat) : PyData.eqv (wdD a) (wdD b) = decide (a = b) := by
  unfold wdD
  rw [PyData.eqv]
  by_cases h : a = b
  · rw [h]; simp
  · rw [decide_eq_false h]
    exact beq_eq_false_iff_ne.mpr fun z => h (sOf_inj.mp z)
theorem strs_dp {K : PySem.W.Frag} {H : Hp} : ∀ W : List (List Nat), DpAll K H (strsV W) (W.map wdD)
  | [] => .nil
  | l :: W => .cons (.str _) (strs_dp W)
theorem wd_ok0 : allWords.all (fun l => okD 3 (wdD l)) = true := by decide +kernel
theorem wds_ok {W : List (List Nat)} {n : Nat} (gW : GoodW W n) (n1 : 1 ≤ n) (n6 : n ≤ 6) : okD 4 (.list (W.map wdD)) = true ∧ okD 4 (.tuple (W.map wdD)) = true :=
  ok_mem W fun l hl => (gW l hl).by n1 n6 _ wd_ok0
section
variable {P : Program} {w : World} {K : PySem.W.Frag} {mg : Str → Option Value} {base : Heap} {AD : Ads}
def spCardEq (AD : Ads) : Sp := fun vs H Q _ => ∃ a b W N n W2 N2 n2, vs = [.ref a, .ref b] ∧ CardN AD H a W N n ∧ CardN AD H b W2 N2 n2 ∧ GoodW W n ∧ GoodW W2 n2 ∧ (1 ≤ n ∧ n ≤ 6) ∧ (1 ≤ n2 ∧ n2 ≤ 6) ∧ Q (.bl (decide (W = W2 ∧ N = N2))) H
theorem card_ty (T : Top K mg AD) {H : Hp} {x : Addr} {W N n} (h : CardN AD H x W N n) : TyX K H (.ref x) (.ref AD.C_Card) := let ⟨_, _, _, _, _, _, e, _⟩ := h; .base (.ins e T.cl_Card T.i1_Card T.i2 T.i3 T.i4_Card)
theorem ok_Card___eq__ (T : Top K mg AD) : FnOk P w K mg base CX0 1 AD.f_Card___eq__ AD.d_Card___eq__ P_Card___eq__ (spCardEq AD) := by
  refine T.D_Card___eq__.F.ok sc_Card___eq__ (fun vs H Q E h => ?_) (fun cdv A outer s H vs Q E hr h => ?_)
  · obtain ⟨a, b, W, N, n, W2, N2, n2, rfl, _⟩ := h
    rfl
  · obtain ⟨a, b, W, N, n, W2, N2, n2, rfl, ca, cb, g1, g2, ⟨n1, n6⟩, ⟨m1, m6⟩, q⟩ := h
    have kb := cb
    obtain ⟨dx, tc, tw, tm, ys, ms, ea, _, _, ew, em, pm⟩ := ca
    obtain ⟨dx2, tc2, tw2, tm2, ys2, ms2, eb, _, _, ew2, em2, pm2⟩ := cb
    have cl := T.cl_Card
    have n1' := T.n_Card_words
    have n2' := T.n_Card_marks
    refine ⟨_, (pss_one (ps_ret (pe_and (pe_callB (call_isiK' (K := K) rfl) (by rfl) T.b_isinstance (by decide +kernel) (pa_cons (pv 1) (pa_cons (pe_glob (v := .ref AD.C_Card) rfl T.g_Card rfl) pa_nil))) (pe_and (pe_cmpR (op_eqD hr.units) (pe_fld (pv 0) rfl) (pe_fld (pv 1) rfl) (nomark _)) (pe_one (pe_cmpR (op_eqD hr.units) (pe_fld (pv 0) rfl) (pe_fld (pv 1) rfl) (nomark _))))))), ?_⟩
    walk_at "go"
    refine ⟨_, _, _, _, true, rfl, .own _, card_ty T kb, T.ii_Card, ?_⟩
    walk_at "go"
    refine ⟨.tuple (W.map wdD), .tuple (W2.map wdD), .tup (SqT.of ew) (strs_dp W), .tup (SqT.of ew2) (strs_dp W2), ok_shaped (wds_ok g1 n1 n6).2, ok_shaped (wds_ok g2 m1 m6).2, ?_⟩
    rw [PyData.eqv, eqvAll_map wdD wdD_eqv]
    refine ⟨_, rfl, ?_⟩
    refine ite2 (fun e => ?_) (fun e => ?_)
    · have e1 := of_decide_eq_true e
      walk_at "go"
      refine ⟨.tuple (N.map mD), .tuple (N2.map mD), .tup (SqT.of em) pm.data, .tup (SqT.of em2) pm2.data, ok_shaped (ok_mDs N).2, ok_shaped (ok_mDs N2).2, ?_⟩
      rw [PyData.eqv, eqvAll_map mD mD_eqv]
      rwa [show decide (W = W2 ∧ N = N2) = decide (N = N2) by simp [e1]] at q
    · have e1 : ¬ W = W2 := fun z => e (decide_eq_true z)
      rwa [show decide (W = W2 ∧ N = N2) = false by simp [e1]] at q
end

/-! ### a text tells its words and marks -/
theorem slit_head (m : Nat × Nat) : (slitL m).head? = some 115 := rfl
theorem slit_inj0 : all12 (fun c t => all12 fun c2 t2 => decide (slitL (c, t) = slitL (c2, t2) → (c, t) = (c2, t2))) = true := by decide +kernel
theorem rows_inj {W W2 : List (List Nat)} {N N2 : List (Nat × Nat)} (hW : ∀ l ∈ W, l.head? ≠ some 115) (hW2 : ∀ l ∈ W2, l.head? ≠ some 115) (hN : ∀ m ∈ N, m.1 < 12 ∧ m.2 < 12) (hN2 : ∀ m ∈ N2, m.1 < 12 ∧ m.2 < 12)
    (e : rowsL W N = rowsL W2 N2) : W = W2 ∧ N = N2 := by
  induction W generalizing W2 with
  | nil =>
    cases W2 with
    | nil =>
      refine ⟨rfl, ?_⟩
      have e2 : N.map slitL = N2.map slitL := e
      clear e
      induction N generalizing N2 with
      | nil =>
        cases N2 with
        | nil => rfl
        | cons _ _ => cases e2
      | cons m N ih =>
        cases N2 with
        | nil => cases e2
        | cons k N2 =>
          rw [List.map_cons, List.map_cons] at e2
          have h1 := List.cons.inj e2
          have a := hN m List.mem_cons_self
          have b := hN2 k List.mem_cons_self
          have z := of_decide_eq_true (by12 (by12 slit_inj0 a.1 a.2) b.1 b.2) h1.1
          have z' : m = k := z
          rw [z', ih (fun x hx => hN x (List.mem_cons_of_mem _ hx)) (fun x hx => hN2 x (List.mem_cons_of_mem _ hx)) h1.2]
    | cons l W2 =>
      exfalso
      cases N with
      | nil => cases e
      | cons m N =>
        have h1 := (List.cons.inj (show slitL m :: N.map slitL = l :: (W2 ++ N2.map slitL) from e)).1
        exact hW2 l List.mem_cons_self (by rw [← h1]; exact slit_head m)
  | cons l W ih =>
    cases W2 with
    | nil =>
      exfalso
      cases N2 with
      | nil => cases e
      | cons m N2 =>
        have h1 := (List.cons.inj (show l :: (W ++ N.map slitL) = slitL m :: N2.map slitL from e)).1
        exact hW l List.mem_cons_self (by rw [h1]; exact slit_head m)
    | cons l2 W2 =>
      have h1 := List.cons.inj (show l :: (W ++ N.map slitL) = l2 :: (W2 ++ N2.map slitL) from e)
      obtain ⟨a, b⟩ := ih (W2 := W2) (fun x hx => hW x (List.mem_cons_of_mem _ hx)) (fun x hx => hW2 x (List.mem_cons_of_mem _ hx)) h1.2
      exact ⟨by rw [h1.1, a], b⟩
theorem word_head0 : allWords.all (fun l => decide (l.head? ≠ some 115)) = true := by decide +kernel
theorem txtOf_inj {W W2 : List (List Nat)} {N N2 : List (Nat × Nat)} {n n2 : Nat} (g : GoodW W n) (g2 : GoodW W2 n2) (h : 1 ≤ n ∧ n ≤ 6) (h2 : 1 ≤ n2 ∧ n2 ≤ 6) (l : 1 ≤ W.length) (l2 : 1 ≤ W2.length) (hN : ∀ m ∈ N, m.1 < 12 ∧ m.2 < 12) (hN2 : ∀ m ∈ N2, m.1 < 12 ∧ m.2 < 12) :
    txtOf W N = txtOf W2 N2 ↔ W = W2 ∧ N = N2 := by
  refine ⟨fun e => ?_, fun ⟨a, b⟩ => by rw [a, b]⟩
  have e1 := text_split h.1 h.2 g l hN
  rw [e, text_split h2.1 h2.2 g2 l2 hN2] at e1
  refine rows_inj (fun x hx => of_decide_eq_true ((g x hx).by h.1 h.2 _ word_head0)) (fun x hx => of_decide_eq_true ((g2 x hx).by h2.1 h2.2 _ word_head0)) hN hN2 ?_
  exact ((List.map_inj_right (f := sOf) fun a b z => sOf_inj.mp z).mp e1).symm
/-- two sorted lists with the same members in number are the same -/
theorem sorted_same : ∀ {A B : List (Nat × Nat)}, A.Perm B → A.Pairwise lexLe → B.Pairwise lexLe → A = B := fun p a b => p.eq_of_pairwise (fun x y _ _ h k => lex_anti h k) a b

/-! ### == and != of an own class with things of other kinds -/
section
variable {X : Cx} {pins : List (Addr × Obj)} {σ : L2.St} {H : Hp} {s : Shared} {CX : CXT} {n : Nat} {f C : Addr} {fd : FuncData} {ps : List Str} {sp : Sp} {E : XK} {vs : List V} {us : List Value} {Q : VK} {A1 : Around}
/-- what may stand at the right of an own ==: an instance of the same class, a thing of a built-in type -/
inductive Oth2 (K : PySem.W.Frag) (C : Addr) (H : Hp) : V → Prop where
  | kind {y : V} (T : String) (h : TyX K H y (.type T)) (hs : PySem.W.subIn K (.type T) (.ref C) = some false) : Oth2 K C H y
  | ins {b dx : Addr} {fs : List (Str × V)} (h : H b = some (.ins C dx fs)) : Oth2 K C H (.ref b)
theorem Oth2.typ {y : V} {u : Value} (I : Inv X pins σ H s) (oth : Oth2 X.K C H y) (ry : RelV y u) : ∃ tb, PySem.W.Looks (model X.prog X.w) s.heap (typeOf u) tb ∧ (tb = .ref C ∨ ∃ T, tb = .type T ∧ PySem.W.subIn X.K (.type T) (.ref C) = some false) := by
  cases oth with
  | kind T h hs =>
    obtain ⟨P, k, p, _⟩ := kit_of I ry h
    exact ⟨_, k.1 _ _ I.kIn p, .inr ⟨T, rfl, hs⟩⟩
  | ins hb2 =>
    cases ry
    obtain ⟨mB, J', _⟩ := ins_get I.hok hb2
    obtain ⟨od', J', _⟩ := J'.look
    exact ⟨_, J'.type, .inl rfl⟩
def rEqOwn2 (K : PySem.W.Frag) (neg : Bool) (C : Addr) (sp : Sp) (E : XK) : R2 := fun x y H Q => ∃ a dx fs, x = .ref a ∧ H a = some (.ins C dx fs) ∧ Oth2 K C H y ∧ sp [.ref a, y] H (fun v H' => ∃ b : Bool, v = .bl b ∧ Q (.bl (if neg then !b else b)) H') E
theorem op_eqOwn2 (M : OwnM X.K C "__eq__" f) (F : FnOk X.prog X.w X.K X.mg X.base CX n f fd ps sp) (hb : L2.Binds X.K fd ps []) (hx : Passes CX X E) (hr : Room n X.A) :
    OpR X (compareOp .Eq) (rEqOwn2 X.K false C sp E) := by
  intro pins s σ H x y v u Q I rx ry h
  obtain ⟨a, dx, fs, rfl, ha, oth, h⟩ := h
  cases rx
  obtain ⟨mA, J, _⟩ := ins_get I.hok ha
  obtain ⟨od, J, _⟩ := J.look
  obtain ⟨m, hF⟩ := I.fr
  have back : wpAny (model X.prog X.w) X.A (call (.ref f) [.ref a, u]) (PySem.W.CmpBack (EP X pins σ Q)) X.xe s := by
    refine wpAny_mono (run_own (⟨hr, rfl⟩ : Sub X n X.A) F hb hx I (.cons val_ref (.cons ry .nil)) h) (fun w s' q => ?_) fun _ _ z => z
    obtain ⟨z, H', I', rz, b, rfl, q⟩ := q
    cases rz
    exact ⟨.bl b, H', I', rfl, q⟩
  show wpAny (model X.prog X.w) X.A (richCompare .Eq (.ref a) u) (EP X pins σ Q) X.xe s
  obtain ⟨tb, hT, e | ⟨T, e, hs⟩⟩ := oth.typ I ry
  · subst e
    exact PySem.W.cmp_K (op := .Eq) (tb := .ref C) hr.units0 hF I.ok.mod.kin J hT (by simp [PySem.W.notFirst]) M.at_ M.fn back
  · subst e
    exact PySem.W.cmp_K (op := .Eq) (tb := .type T) hr.units0 hF I.ok.mod.kin J hT (by simp [PySem.W.notFirst, hs]) M.at_ M.fn back
theorem op_neOwn2 (M : OwnM X.K C "__eq__" f) (N : NeC X.K C) (F : FnOk X.prog X.w X.K X.mg X.base CX n f fd ps sp) (hb : L2.Binds X.K fd ps []) (hx : Passes CX X E) (hr : Room (n + 1) X.A) :
    OpR X (compareOp .NotEq) (rEqOwn2 X.K true C sp E) := by
  intro pins s σ H x y v u Q I rx ry h
  obtain ⟨a, dx, fs, rfl, ha, oth, h⟩ := h
  cases rx
  obtain ⟨mA, J, _⟩ := ins_get I.hok ha
  obtain ⟨od, J, _⟩ := J.look
  obtain ⟨m, hF⟩ := I.fr
  have sb : Sub X n X.A.in1 := Sub.in1 ⟨hr, rfl⟩
  have back : wpAny (model X.prog X.w) X.A.in1 (call (.ref f) [.ref a, u]) (fun v s' => ∃ b, v = .bool b ∧ EP X pins σ Q (.bool (!b)) s') X.xe s := by
    refine wpAny_mono (run_own sb F hb hx I (.cons val_ref (.cons ry .nil)) h) (fun w s' q => ?_) fun _ _ z => z
    obtain ⟨z, H', I', rz, b, rfl, q⟩ := q
    cases rz
    exact ⟨b, rfl, .bl (!b), H', I', rfl, q⟩
  have one : wpAny (model X.prog X.w) X.A (tryCompare (.ref a) "__ne__" u) (fun r s' => ∃ v, r = some v ∧ EP X pins σ Q v s') X.xe s := by
    unfold tryCompare
    refine wpAny_bind (ne_here N I.kIn J (wpAny_call (codeAny_call_builtin PySem.F.slot_object_ne.plain PySem.F.cmpEntry_ne (PySem.W.check_slot PySem.F.cmpKind_ne PySem.F.cmpSplit_ne (J.type.andThen (PySem.W.looks_mroIn I.kIn N.up)) (PySem.F.cmpArgs_ne _ _) ?_))))
    unfold Builtin.«object.__ne__»
    refine wpAny_bind (m := slotArgs "__ne__" 1 _) (wpAny_pure ?_)
    refine wpAny_bind (wpAny_cRoomFor sb.room.units0 ?_)
    refine wpAny_bind (m := callSpecialIfBound? (.ref a) (Str.ofString "__eq__") [u]) (PySem.W.ifBound_K I.kIn J M.at_ M.fn (wpAny_mono back (fun r s' q => ?_) fun _ _ z => z))
    obtain ⟨b, rfl, q⟩ := q
    exact wpAny_bind (wpAny_truthy_bool (wpAny_pure (wpAny_pure ⟨_, rfl, q⟩)))
  obtain ⟨tb, hT, hn⟩ := oth.typ I ry
  show wpAny (model X.prog X.w) X.A (richCompare .NotEq (.ref a) u) (EP X pins σ Q) X.xe s
  unfold richCompare
  simp only [oneThing_ref]
  refine wpAny_holding (wpAny_bind (wpAny_cRoomFor (hr.mono (Nat.le_succ n)).units0 ?_))
  refine wpAny_bind (J.type.here (wpAny_bind (hT.here ?_)))
  rcases hn with rfl | ⟨T, rfl, hs⟩
  · rw [if_neg (by simp)]
    refine wpAny_bind (wpAny_pure ?_)
    simp only [Bool.false_eq_true, if_false]
    refine wpAny_bind (wpAny_mono one (fun r s' ⟨v, e, q⟩ => ?_) fun _ _ z => z)
    subst e
    exact wpAny_pure q
  · rw [if_pos (by rfl)]
    refine wpAny_bind ((PySem.W.looks_subIn I.kIn hs).here ?_)
    simp only [Bool.false_eq_true, if_false]
    refine wpAny_bind (wpAny_mono one (fun r s' ⟨v, e, q⟩ => ?_) fun _ _ z => z)
    subst e
    exact wpAny_pure q
end
/-! ### C(e, .., k = v, ..) where the wish looks at the slots -/
section
variable {X : Cx} {CX : CXT} {n m : Nat} {f C : Addr} {fd : FuncData} {ps ks : List Str} {sp : Sp} {E : L2.St → XK} {x : Str} {p pos : Pos} {e : Expr} {es : List Expr} {kws : List Keyword} {t tk : TA} {g : List Value → List Value → List Value} {gV : List V → List V → List V}
theorem makeKS_run {E : XK} {pins : List (Addr × Obj)} {σ : L2.St} {H : Hp} {s : Shared} {Q : VK} {us ws : List Value} {vs zs : List V} (M : Mk X.K C f) (F : FnOk X.prog X.w X.K X.mg X.base CX n f fd ps sp) (hr : Room (n + 1) X.A) (hb : L2.KBn X.K fd ps (m + 1) ks g gV) (esc : PassesAt CX X σ E)
    (J : L2.Inv X pins σ H s) (r : Vals vs us) (rz : Vals zs ws) (l1 : vs.length = m) (l2 : zs.length = ks.length)
    (h : ∀ y dy, H y = none → H dy = none → dy ≠ y → sp (gV (.ref y :: vs) zs) (L2.upd (L2.upd H dy (.own y)) y (.ins C dy [])) (fun v H2 => v = .non ∧ Q (.ref y) H2) E) :
    wpAny (model X.prog X.w) X.A (call (.ref C) us (ks.zip ws)) (EP X pins σ Q) X.xe s := by
  generalize hn : s.heap.objs.size = k
  have wish := h (k + 1) k (J.hok.fresh (hn ▸ Nat.le_succ _)) (J.hok.fresh (hn ▸ Nat.le_refl _)) (Nat.ne_of_lt (Nat.lt_succ_self k))
  subst hn
  have J2 := L2.Inv.made (C := C) J
  have r1 : Vals (V.ref (s.heap.objs.size + 1) :: vs) (Value.ref (s.heap.objs.size + 1) :: us) := .cons val_ref r
  have r2 := hb.rel r1 rz
  have n1 : (Value.ref (s.heap.objs.size + 1) :: us).length = m + 1 := by
    rw [List.length_cons, ← r.length, l1]
  refine wpAny_call (make_map (f := f) J.kIn M.makes M.init (beq_iff_eq.mp M.fn) (codeAny_mono (F.run _ X.stack _ _ ⟨Value.ref (s.heap.objs.size + 1) :: us, ks.zip ws⟩ (g (Value.ref (s.heap.objs.size + 1) :: us) ws) _ _ E (hr.make C us (ks.zip ws))
    (J2.env0.make C us (ks.zip ws)) (hb.to _ (Value.ref (s.heap.objs.size + 1) :: us) ws J2.kIn n1 (rz.length.symm.trans l2)) r2 wish) fun res s' post => ?_))
  cases res with
  | error er => exact esc pins _ _ er s' J2 post
  | ok fl =>
    cases fl with
    | ret u =>
      obtain ⟨v, H', J3, rv, ev, w⟩ := J2.after post
      subst ev
      exact ⟨rv, ⟨V.ref (s.heap.objs.size + 1), H', J3, val_ref, w⟩⟩
    | next => exact post.elim
    | brk => exact post.elim
    | cont => exact post.elim
def tMakeKS (C : Addr) (m k : Nat) (sp : Sp) (gV : List V → List V → List V) (E : L2.St → XK) (t tk : TA) : TE := fun σ H Q => t σ H fun vs H1 => tk σ H1 fun zs H2 => vs.length = m ∧ zs.length = k ∧ ∀ y dy, H2 y = none → H2 dy = none → dy ≠ y →
  sp (gV (.ref y :: vs) zs) (L2.upd (L2.upd H2 dy (.own y)) y (.ins C dy [])) (fun v H3 => v = .non ∧ Q (.ref y) H3) (E σ)
theorem pe_makeKS (M : Mk X.K C f) (F : FnOk X.prog X.w X.K X.mg X.base CX n f fd ps sp) (hr : Room (n + 1) X.A) (hg : Gl X x) (hm : X.mg x = some (.ref C)) (hb : L2.KBn X.K fd ps (m + 1) ks g gV) (esc : ∀ σ, PassesAt CX X σ (E σ)) (ha : PA X (e :: es) t) (hkw : L2.PK X kws tk)
    (hall : (backToKw pos (keywordEach kws X.env)).all (·.1.isSome) = true := by rfl) (hks : (backToKw pos (keywordEach kws X.env)).filterMap (·.1) = ks := by rfl) (hdb : (x == ("__debug__" : Str)) = false := by decide)
    (he : starEach (e :: es) X.env = (false, eval e X.env) :: starEach es X.env := by rfl) (hpl : ((backTo pos (starEach (e :: es) X.env)).any (·.1) || (backToKw pos (keywordEach kws X.env)).any (·.1.isNone)) = false := by rfl) :
    PE X (.Call (.Name x p) (e :: es) kws pos) (tMakeKS C m ks.length sp gV E t tk) := by
  refine ⟨fun pins s σ H Q J h => ?_⟩
  refine wpAny_Call_Name_kw (ld_glob J hg hm ?_ hdb)
  refine PySem.W.callWith_KW (h₀ := X.base) J.ok.mod.kin M.kp hall (thn (ha.run pos pins s σ H _ J h) fun us s1 ⟨vs, H1, J1, r, q⟩ => ?_) hpl he
  refine thn (hkw.run pos pins s1 σ H1 _ J1 q) fun ws s2 ⟨zs, H2, J2, rz, l1, l2, q2⟩ => ⟨J2.kIn, ?_⟩
  rw [hks]
  exact makeKS_run M F hr hb (esc σ) J2 r rz l1 l2 q2
end

/-! ### the law -/
/-- what is told of one drawn card -/
structure DrP (W : List (List Nat)) (M : List (Nat × Nat)) (n : Nat) : Prop where
  g : GoodW W n
  w1 : 1 ≤ W.length
  w12 : W.length ≤ 12
  n1 : 1 ≤ n
  n6 : n ≤ 6
  ok : OkM M W.length n
abbrev Dr := List (List Nat) × List (Nat × Nat) × Nat
/-- the drawn ones as they stand: pairs of a list of words and a list of marks, neither of them the list at a or the one at L -/
inductive Drn (a L : Addr) (H : Hp) : List V → List Dr → Prop where
  | nil : Drn a L H [] []
  | cons {t wl ml : Addr} {xs : List V} {W : List (List Nat)} {M : List (Nat × Nat)} {n : Nat} {vs : List V} {ds : List Dr} (et : H t = some (.tup [.ref wl, .ref ml])) (ew : H wl = some (.lst (strsV W))) (em : H ml = some (.lst xs)) (pr : Prs H xs M)
      (p : DrP W M n) (ne : wl ≠ a ∧ ml ≠ a ∧ wl ≠ L ∧ ml ≠ L) (r : Drn a L H vs ds) : Drn a L H (.ref t :: vs) ((W, M, n) :: ds)
theorem Drn.same {a L : Addr} {H H' : Hp} (s : Same H H') : ∀ {vs ds}, Drn a L H vs ds → Drn a L H' vs ds
  | _, _, .nil => .nil
  | _, _, .cons et ew em pr p ne r => .cons (s _ _ et) (s _ _ ew) (s _ _ em) (pr.mono s) p ne (r.same s)
theorem Drn.keep {a L x : Addr} {H H' : Hp} {zs : List V} (hx : H x = some (.lst zs)) (nx : x = a ∨ x = L) (b : ∀ c o, c ≠ x → H c = some o → H' c = some o) : ∀ {vs ds}, Drn a L H vs ds → Drn a L H' vs ds
  | _, _, .nil => .nil
  | _, _, .cons et ew em pr p ne r => by
    obtain ⟨n1, n2, n3, n4⟩ := ne
    refine .cons (b _ _ (fun z => by rw [z, hx] at et; cases et) et) (b _ _ ?_ ew) (b _ _ ?_ em) (pr.keep (o := .lst []) (fun m z => by rw [hx] at z; cases z) b) p ⟨n1, n2, n3, n4⟩ (r.keep hx nx b)
    · rcases nx with z | z <;> rw [z] <;> assumption
    · rcases nx with z | z <;> rw [z] <;> assumption
theorem Drn.snoc {a L t wl ml : Addr} {H : Hp} {xs : List V} {W : List (List Nat)} {M : List (Nat × Nat)} {n : Nat} (et : H t = some (.tup [.ref wl, .ref ml])) (ew : H wl = some (.lst (strsV W))) (em : H ml = some (.lst xs)) (pr : Prs H xs M)
    (p : DrP W M n) (ne : wl ≠ a ∧ ml ≠ a ∧ wl ≠ L ∧ ml ≠ L) : ∀ {vs ds}, Drn a L H vs ds → Drn a L H (vs ++ [.ref t]) (ds ++ [(W, M, n)])
  | _, _, .nil => .cons et ew em pr p ne .nil
  | _, _, .cons a1 a2 a3 a4 a5 a6 r => .cons a1 a2 a3 a4 a5 a6 (r.snoc et ew em pr p ne)
theorem Drn.len {a L : Addr} {H : Hp} : ∀ {vs ds}, Drn a L H vs ds → vs.length = ds.length
  | _, _, .nil => rfl
  | _, _, .cons _ _ _ _ _ _ r => congrArg Nat.succ r.len
theorem Drn.at {a L : Addr} {H : Hp} : ∀ {vs ds} {i : Nat} {d : Dr}, Drn a L H vs ds → ds[i]? = some d → ∃ t wl ml xs, vs[i]? = some (.ref t) ∧ H t = some (.tup [.ref wl, .ref ml]) ∧ H wl = some (.lst (strsV d.1)) ∧ H ml = some (.lst xs) ∧ Prs H xs d.2.1 ∧ DrP d.1 d.2.1 d.2.2
  | _, _, 0, _, .cons et ew em pr p _ _, e => by cases e; exact ⟨_, _, _, _, rfl, et, ew, em, pr, p⟩
  | _, _, i + 1, _, .cons _ _ _ _ _ _ r, e => r.at (i := i) e
inductive TxAt : List V → List Dr → List (List (Nat × Nat)) → Prop where
  | nil : TxAt [] [] []
  | cons {W : List (List Nat)} {M N : List (Nat × Nat)} {n : Nat} {vs : List V} {ds : List Dr} {Ns : List (List (Nat × Nat))} (p : N.Perm M) (s : N.Pairwise lexLe) (r : TxAt vs ds Ns) : TxAt (.str (txtOf W N) :: vs) ((W, M, n) :: ds) (N :: Ns)
theorem do_text : txtOf [[100, 111]] [] = sOf [100, 111] := of_decide_eq_true (by decide +kernel : decide (txtOf [[100, 111]] [] = sOf [100, 111]) = true)
theorem do_good : GoodW [[100, 111]] 1 := fun l hl => by
  rw [List.mem_singleton.mp hl]
  refine ⟨rfl, rfl, by decide, fun k hk => ?_⟩
  have : k = 0 ∨ k = 1 ∨ k = 2 := by
    have : [100, 111].length = 2 := rfl
    omega
  rcases this with rfl | rfl | rfl <;> decide
theorem TxAt.snoc {W : List (List Nat)} {M N : List (Nat × Nat)} {n : Nat} (p : N.Perm M) (s : N.Pairwise lexLe) : ∀ {vs ds Ns}, TxAt vs ds Ns → TxAt (vs ++ [.str (txtOf W N)]) (ds ++ [(W, M, n)]) (Ns ++ [N])
  | _, _, _, .nil => .cons p s .nil
  | _, _, _, .cons a b r => .cons a b (r.snoc p s)
theorem TxAt.len : ∀ {vs ds Ns}, TxAt vs ds Ns → vs.length = ds.length
  | _, _, _, .nil => rfl
  | _, _, _, .cons _ _ r => congrArg Nat.succ r.len
theorem TxAt.at : ∀ {vs ds Ns} {i : Nat} {d : Dr}, TxAt vs ds Ns → ds[i]? = some d → ∃ N, vs[i]? = some (.str (txtOf d.1 N)) ∧ N.Perm d.2.1 ∧ N.Pairwise lexLe
  | _, _, _, 0, _, .cons p s _, e => by cases e; exact ⟨_, rfl, p, s⟩
  | _, _, _, i + 1, _, .cons _ _ r, e => r.at (i := i) e
/-- a list is changed: a card stays -/
theorem CardN.poke {AD : Ads} {H : Hp} {x h : Addr} {W : List (List Nat)} {N : List (Nat × Nat)} {n : Nat} {zs ws : List V} (c : CardN AD H x W N n) (e : H h = some (.lst zs)) : CardN AD (upd H h (.lst ws)) x W N n := by
  obtain ⟨dx, tc, tw, tm, ys, ms, h1, h2, h3, h4, h5, h6⟩ := c
  have k : ∀ c o, c ≠ h → H c = some o → upd H h (.lst ws) c = some o := fun c o nc z => (upd_ne nc).trans z
  refine ⟨dx, tc, tw, tm, ys, ms, k _ _ (fun z => by rw [z, e] at h1; cases h1) h1, k _ _ (fun z => by rw [z, e] at h2; cases h2) h2, h3.but (x := h) (fun l ⟨d, z⟩ => by rw [e] at z; cases z) k, k _ _ (fun z => by rw [z, e] at h4; cases h4) h4, k _ _ (fun z => by rw [z, e] at h5; cases h5) h5, h6.keep (o := .lst []) (fun m z => by rw [e] at z; cases z) k⟩
theorem CardN.sm {AD : Ads} {H H' : Hp} {x : Addr} {W : List (List Nat)} {N : List (Nat × Nat)} {n : Nat} (c : CardN AD H x W N n) (s : Same H H') : CardN AD H' x W N n := by
  obtain ⟨dx, tc, tw, tm, ys, ms, h1, h2, h3, h4, h5, h6⟩ := c
  exact ⟨dx, tc, tw, tm, ys, ms, s _ _ h1, s _ _ h2, h3.mono s, s _ _ h4, s _ _ h5, h6.mono s⟩
section
variable {P : Program} {w : World} {K : PySem.W.Frag} {mg : Str → Option Value} {base : Heap} {AD : Ads}
def spLaw (K : PySem.W.Frag) : Sp := fun vs H Q _ => ∃ (a : Addr) (ns : List Int), vs = [.ref a] ∧ SqL K H a (ns.map V.int) ∧ ns.length ≤ 63 ∧ ∀ H', Q (.bl true) H'
theorem ok_law (T : Top K mg AD) : FnOk P w K mg base CX0 14 AD.f_law AD.d_law P_law (spLaw K) := by
  refine T.D_law.F.ok sc_law (fun vs H Q E h => ?_) (fun cdv A outer s H vs Q E hr h => ?_)
  · obtain ⟨a, ns, rfl, _⟩ := h
    rfl
  · obtain ⟨s0, ns, rfl, hq, hl, q⟩ := h
    refine ⟨_, (pss_cons (ps_set (i := 1) sc_law.nd rfl (Or.inl rfl) (callD T.D_l_hand (ok_l_hand T) hr (pa_cons (pv 0) pa_nil)))
    (pss_cons (ps_set (i := 2) sc_law.nd rfl (Or.inl rfl) (pe_lst pa_nil))
    (pss_cons (ps_for PassesOwn.never rfl (pi_range1 (by rfl) T.b_range (pa_cons pe_int pa_nil)) (pg_name (i := 3) sc_law.nd rfl (Or.inl rfl))
    (pss_cons (ps_par (i := 4) (j := 5) (by rfl) sc_law.nd rfl rfl (by decide) rfl rfl (pa_cons (pe_op op_add pe_int (callD T.D_l_draw (ok_l_drawL T) hr (pa_cons (pv 1) (pa_cons pe_int pa_nil)))) (pa_cons (pe_op op_add pe_int (callD T.D_l_draw (ok_l_drawL T) hr (pa_cons (pv 1) (pa_cons pe_int pa_nil)))) pa_nil)) (by rfl))
    (pss_cons (ps_set (i := 6) sc_law.nd rfl (Or.inl rfl) (callD T.D_l_words (ok_l_wordsL T) hr (pa_cons (pv 1) (pa_cons (pv 4) (pa_cons (pv 5) pa_nil)))))
    (pss_one (ps_expr (pe_bm PySem.F.plainAttrs_list PySem.F.slot_list_append PySem.F.type_list_append mt_append (pv 2) (pa_cons (pe_tup (pa_cons (pv 6) (pa_cons (callD T.D_l_marks (ok_l_marks T) hr (pa_cons (pv 1) (pa_cons (pv 4) (pa_cons (pv 5) (pa_cons pe_int pa_nil))))) pa_nil))) pa_nil)))))))
    (pss_cons (ps_set (i := 7) sc_law.nd rfl (Or.inl rfl) (pe_lst pa_nil))
    (pss_cons (ps_for PassesOwn.never rfl (pi_list (pv 2)) (pg_tup (by rfl) (pgs_cons (pg_name (i := 6) sc_law.nd rfl (Or.inl rfl)) (pgs_cons (pg_name (i := 8) sc_law.nd rfl (Or.inl rfl)) pgs_nil)))
    (pss_cons (ps_set (i := 9) sc_law.nd rfl (Or.inl rfl) (pe_callTy (call_listQ (K := K) rfl) (by rfl) T.b_list (by decide +kernel) (pa_cons (pv 8) pa_nil)))
    (pss_cons (ps_set (i := 10) sc_law.nd rfl (Or.inl rfl) (pe_makeS (E := fun _ => E0) T.mk_Card (ok_Card___init__ T) (hr.mono (by decide)) (by rfl) T.g_Card T.D_Card___init__.b (fun σ => passAt takes0 σ) (pa_cons (pe_lc (own := [("_law_word_here", 12)]) (g := (gName 12)) (tt := tYes) rfl sc_law.nd (pi_list (pv 6)) (blkOk_by (N := N_law) (sc := defScope s_law) (by decide +kernel)) (fun _ _ _ _ _ => (pg_name (i := 12) sc_law.nd rfl (by first | exact Or.inl rfl | exact Or.inr rfl))) (fun _ _ _ _ _ => pts_nil) (fun _ _ _ _ _ => (pe_makeS (E := fun _ => E0) T.mk_Column (ok_Column___init__ T) (hr.mono (by decide)) (by rfl) T.g_Column T.D_Column___init__.b (fun σ => passAt takes0 σ) (pa_cons (pv 12) pa_nil)))) (pa_cons (pv 9) pa_nil))))
    (pss_cons (ps_expr (pe_bm PySem.F.plainAttrs_list PySem.F.slot_list_append PySem.F.type_list_append mt_append (pv 9) (pa_cons (pe_tup (pa_cons pe_int (pa_cons pe_int pa_nil))) pa_nil)))
    (pss_cons (ps_set (i := 11) sc_law.nd rfl (Or.inl rfl) (callD T.D_card_text (ok_card_text T) hr (pa_cons (pv 10) pa_nil)))
    (pss_cons (ps_if (PW.pt (pw_or (pt_not (pt_val (pe_callB (call_isiK' (K := K) rfl) (by rfl) T.b_isinstance (by decide +kernel) (pa_cons (pv 11) (pa_cons (pe_bltn (v := .ty "str") (u := .type "str") (by rfl) T.b_str (by decide +kernel) rfl) pa_nil))))) (pw_or (pt_cmpR op_ne (pv 11) (callD T.D_l_text (ok_l_text T) hr (pa_cons (pv 6) (pa_cons (pv 8) pa_nil))) (nomark _)) (pw_or1 (pt_cmpR op_ne (callD T.D_card_text (ok_card_text T) hr (pa_cons (ClX.pe_cmeth (pe_glob (v := .ref AD.C_Card) rfl T.g_Card rfl) T.cr_Card T.cm_Card_of_words (okR_Card_of_words T) (hr.mono (by decide)) (E := E0) (fun pins σ => passAt takes0 σ pins) (pa_cons (pe_s (x := Str.ofString "do") [100, 111] (by decide +kernel)) pa_nil)) pa_nil)) (pe_s (x := Str.ofString "do") [100, 111] (by decide +kernel)) (nomark _))))))
    (pss_one (ps_ret pe_bl))
    pss_nil)
    (pss_one (ps_expr (pe_bm PySem.F.plainAttrs_list PySem.F.slot_list_append PySem.F.type_list_append mt_append (pv 7) (pa_cons (pv 11) pa_nil))))))))))
    (pss_cons (ps_for PassesOwn.never rfl (pi_range1 (by rfl) T.b_range (pa_cons pe_int pa_nil)) (pg_name (i := 3) sc_law.nd rfl (Or.inl rfl))
    (pss_cons (ps_asg (pe_ix (ix_listK (K := K) rfl) (pv 2) (pv 3) (fun _ _ => rfl)) (pg_tup (by rfl) (pgs_cons (pg_name (i := 6) sc_law.nd rfl (Or.inl rfl)) (pgs_cons (pg_name (i := 8) sc_law.nd rfl (Or.inl rfl)) pgs_nil))))
    (pss_cons (ps_set (i := 10) sc_law.nd rfl (Or.inl rfl) (pe_callS (E := fun _ => E0) (ok_parse_card T) (hr.mono (by decide)) rfl T.D_parse_card.g T.D_parse_card.F.kp T.D_parse_card.b (fun σ => passAt takes0 σ) (pa_cons (pe_ix (ix_listK (K := K) rfl) (pv 7) (pv 3) (fun _ _ => rfl)) pa_nil)))
    (pss_cons (ps_if (PW.pt (pw_or (pt_not (pt_val (pe_callB (call_isiK' (K := K) rfl) (by rfl) T.b_isinstance (by decide +kernel) (pa_cons (pv 10) (pa_cons (pe_glob (v := .ref AD.C_Card) rfl T.g_Card rfl) pa_nil))))) (pw_or (pt_cmpR (op_neD hr.units) (pe_callTy (call_listQ (K := K) rfl) (by rfl) T.b_list (by decide +kernel) (pa_cons (pe_fld (pv 10) rfl) pa_nil)) (pv 6) (nomark _)) (pw_or1 (pt_cmpR (op_neD hr.units) (pe_callTy (call_listQ (K := K) rfl) (by rfl) T.b_list (by decide +kernel) (pa_cons (pe_fld (pv 10) rfl) pa_nil)) (pe_callB cr_sortedPO (by rfl) T.b_sorted (by decide +kernel) (pa_cons (pv 8) pa_nil)) (nomark _))))))
    (pss_one (ps_ret pe_bl))
    pss_nil)
    (pss_cons (ps_if (PW.pt (pw_or (pt_cmpR (op_neOwn2 T.o_Card___eq__ T.ne_Card (ok_Card___eq__ T) T.D_Card___eq__.b pass0 (hr.mono (by decide))) (pv 10) (pe_makeS (E := fun _ => E0) T.mk_Card (ok_Card___init__ T) (hr.mono (by decide)) (by rfl) T.g_Card T.D_Card___init__.b (fun σ => passAt takes0 σ) (pa_cons (pe_lc (own := [("_law_word_here", 12)]) (g := (gName 12)) (tt := tYes) rfl sc_law.nd (pi_list (pv 6)) (blkOk_by (N := N_law) (sc := defScope s_law) (by decide +kernel)) (fun _ _ _ _ _ => (pg_name (i := 12) sc_law.nd rfl (by first | exact Or.inl rfl | exact Or.inr rfl))) (fun _ _ _ _ _ => pts_nil) (fun _ _ _ _ _ => (pe_makeS (E := fun _ => E0) T.mk_Column (ok_Column___init__ T) (hr.mono (by decide)) (by rfl) T.g_Column T.D_Column___init__.b (fun σ => passAt takes0 σ) (pa_cons (pv 12) pa_nil)))) (pa_cons (pv 8) pa_nil))) (nomark _)) (pw_or1 (pt_cmpR op_ne (callD T.D_card_text (ok_card_text T) hr (pa_cons (pv 10) pa_nil)) (pe_ix (ix_listK (K := K) rfl) (pv 7) (pv 3) (fun _ _ => rfl)) (nomark _)))))
    (pss_one (ps_ret pe_bl))
    pss_nil)
    (pss_cons (ps_if (PW.pt (pw_or (pt_cmpR (op_neD hr.units) (pe_lc (own := [("_law_column", 13)]) (g := (gName 13)) (tt := tYes) rfl sc_law.nd (pi_tup (pe_fld (pv 10) rfl)) (blkOk_by (N := N_law) (sc := defScope s_law) (by decide +kernel)) (fun _ _ _ _ _ => (pg_name (i := 13) sc_law.nd rfl (by first | exact Or.inl rfl | exact Or.inr rfl))) (fun _ _ _ _ _ => pts_nil) (fun _ _ _ _ _ => (pe_fldK (K := K) (by rfl) (pv 13) rfl))) (pv 6) (nomark _)) (pw_or (pt_cmpR op_ne (pe_fld (pv 10) rfl) (pe_callB (call_lenQ (K := K) rfl) (by rfl) T.b_len (by decide +kernel) (pa_cons (pv 6) pa_nil)) (nomark _)) (pw_or1 (pt_cmpR op_ne (pe_op op_mul pe_int (pe_fld (pv 10) rfl)) (pe_callB call_lenS (by rfl) T.b_len (by decide +kernel) (pa_cons (pe_ix (ix_listK (K := K) rfl) (pv 6) pe_int (fun _ _ => rfl)) pa_nil)) (nomark _))))))
    (pss_one (ps_ret pe_bl))
    pss_nil)
    (pss_one (ps_if (PW.pt (pw_or (pt_cmpR (op_neOwn2 T.o_Card___eq__ T.ne_Card (ok_Card___eq__ T) T.D_Card___eq__.b pass0 (hr.mono (by decide))) (pe_callS (E := fun _ => E0) (ok_parse_card T) (hr.mono (by decide)) rfl T.D_parse_card.g T.D_parse_card.F.kp T.D_parse_card.b (fun σ => passAt takes0 σ) (pa_cons (pe_ix (ix_listK (K := K) rfl) (pv 7) (pv 3) (fun _ _ => rfl)) pa_nil)) (pv 10) (nomark _)) (pw_or1 (pt_cmpR op_ne (pe_cmpR (op_eqOwn2 T.o_Card___eq__ (ok_Card___eq__ T) T.D_Card___eq__.b pass0 (hr.mono (by decide))) (pe_callS (E := fun _ => E0) (ok_parse_card T) (hr.mono (by decide)) rfl T.D_parse_card.g T.D_parse_card.F.kp T.D_parse_card.b (fun σ => passAt takes0 σ) (pa_cons (pe_ix (ix_listK (K := K) rfl) (pv 7) (pe_op op_sub pe_int (pv 3)) (fun _ _ => rfl)) pa_nil)) (pv 10) (nomark _)) (pe_cmpR op_eq (pe_ix (ix_listK (K := K) rfl) (pv 7) pe_int (fun _ _ => rfl)) (pe_ix (ix_listK (K := K) rfl) (pv 7) pe_int (fun _ _ => rfl)) (nomark _)) (nomark _)))))
    (pss_one (ps_ret pe_bl))
    pss_nil))))))))
    (pss_one (ps_ret pe_bl)))))))), ?_⟩
    walk_at "go"
    refine ⟨s0, ns, rfl, hq, hl, fun a H1 s1 na hd => ?_⟩
    clear hq s1 na
    walk_at "go"
    intro L nL
    have La := hd.ne nL
    obtain ⟨hl0, hd⟩ := hd.at
    obtain ⟨ol, hol⟩ := hd.some2
    have Ll : L ≠ hl0 := fun z => by rw [z, hol] at nL; cases nL
    have s2 := same_new (o := .lst []) (Same.refl H1) nL
    have eL : upd H1 L (.lst []) L = some (.lst []) := upd_same
    replace hd := hd.same s2
    generalize upd H1 L (.lst []) = H2 at eL hd ⊢
    clear s2 nL hol
    walk_at "go"
    refine for_it (walk_range (lo := 0) (n := (2 : Int).toNat)) (fun i σ H' => ∃ o3 o4 o5 o6 vs ds, σ = [some (.ref s0), some (.ref a), some (.ref L), o3, o4, o5, o6, none, none, none, none, none, none, none] ∧ HandL H' a hl0 ∧ H' L = some (.lst vs) ∧ Drn a L H' vs ds ∧ ds.length = i)
      ⟨none, none, none, none, [], [], rfl, hd, eL, .nil, rfl⟩ (fun _ _ _ _ _ => trivial) ?_ ?_
    · rintro i x σ Ha Hb hi ⟨o3, o4, o5, o6, vs, ds, rfl, hda, e1, dr, lds⟩ ⟨rfl, ex⟩
      walk_at "go"
      refine ⟨_, _, hl0, rfl, hda, cdivw (by decide) (by decide), fun d1 H3 d10 d11 b3 hd3 => ?_⟩
      obtain ⟨n, hn⟩ : ∃ n : Nat, 1 + d1 = n := ⟨(1 + d1).toNat, by omega⟩
      walk_at "go"
      refine ⟨_, _, hl0, rfl, hd3, cdivw (by decide) (by decide), fun d2 H4 d20 d21 b4 hd4 => ?_⟩
      obtain ⟨m, hm⟩ : ∃ m : Nat, 1 + d2 = m := ⟨(1 + d2).toNat, by omega⟩
      replace b4 := b3.trans b4
      walk_at "go"
      refine ⟨_, _, rfl, ?_⟩
      dsimp only
      rw [hn, hm]
      walk_at "go"
      refine ⟨a, n, m, hl0, rfl, ⟨by omega, by omega⟩, ⟨by omega, by omega⟩, hd4, fun wl W H5 gW lW b5 hd5 nwl ewl => ?_⟩
      have wla : wl ≠ a := fun z => by
        obtain ⟨_, _, _, _, e, _⟩ := hd4
        rw [z, e] at nwl
        cases nwl
      have wlL : wl ≠ L := fun z => by rw [z, b4 _ _ La e1] at nwl; cases nwl
      have e15 := b5 _ _ La (b4 _ _ La e1)
      walk_at "go"
      refine ⟨a, n, m, hl0, rfl, ⟨by omega, by omega⟩, ⟨by omega, by omega⟩, hd5, fun ml xs M H6 b6 hd6 nml eml pr okM => ?_⟩
      have mla : ml ≠ a := fun z => by
        obtain ⟨_, _, _, _, e, _⟩ := hd5
        rw [z, e] at nml
        cases nml
      have mlL : ml ≠ L := fun z => by rw [z, e15] at nml; cases nml
      have e16 := b6 _ _ La e15
      have ewl6 := b6 _ _ wla ewl
      obtain ⟨zs, ez⟩ : ∃ zs, Hb a = some (.lst zs) := by
        obtain ⟨_, _, _, _, e, _⟩ := hda
        exact ⟨_, e⟩
      have dr6 := dr.keep ez (.inl rfl) ((b4.trans b5).trans b6)
      clear dr ez b4 b5 b6 hd5 hda nml nwl e15 ewl hd3 hd4 e1 b3
      walk_at "go"
      refine ⟨szl (by show 2 ≤ 1000; decide), fun t nt => ?_⟩
      have tL : t ≠ L := fun z => by rw [z, e16] at nt; cases nt
      have sT := same_new (o := .tup [.ref wl, .ref ml]) (Same.refl H6) nt
      have et : upd H6 t (.tup [.ref wl, .ref ml]) t = some (.tup [.ref wl, .ref ml]) := upd_same
      replace e16 := sT _ _ e16
      replace ewl6 := sT _ _ ewl6
      replace eml := sT _ _ eml
      replace pr := pr.mono sT
      replace hd6 := hd6.same sT
      replace dr6 := dr6.same sT
      generalize upd H6 t (.tup [.ref wl, .ref ml]) = H7 at et e16 ewl6 eml pr hd6 dr6 ⊢
      clear sT nt
      have lvs := dr6.len
      have bL : ∀ (o : HO) (c : Addr) (u : HO), c ≠ L → H7 c = some u → upd H7 L o c = some u := fun o c u nc e => (upd_ne nc).trans e
      walk_at "go"
      refine ⟨L, vs, _, rfl, rfl, e16, small1000 (by have : i < 2 := by simpa using hi
                                                     omega), ?_⟩
      exact ⟨_, _, _, _, vs ++ [.ref t], ds ++ [(W, M, n)], rfl, hd6.keep La Ll (But.upd (But.refl _ _)), upd_same,
        Drn.snoc (bL _ _ _ tL et) (bL _ _ _ wlL ewl6) (bL _ _ _ mlL eml) (pr.keep (o := .lst []) (fun m z => by rw [e16] at z; cases z) (bL _)) ⟨gW, by omega, by omega, by omega, by omega, by rw [lW]; exact okM⟩ ⟨wla, mla, wlL, mlL⟩ (dr6.keep e16 (.inr rfl) (bL _)),
        by rw [List.length_append, lds]; rfl⟩
    rintro σ G ⟨o3, o4, o5, o6, vs, ds, rfl, -, eL2, dr, lds⟩
    clear hd eL
    have lds2 : ds.length = 2 := lds
    have lvs := dr.len
    walk_at "go"
    intro Tx nTx
    have eLG := eL2
    have sX := same_new (o := .lst []) (Same.refl G) nTx
    have eTx : upd G Tx (.lst []) Tx = some (.lst []) := upd_same
    replace eL2 := sX _ _ eL2
    have dr1 := dr.same sX
    generalize upd G Tx (.lst []) = G1 at sX eTx eL2 dr1 ⊢
    walk_at "go"
    refine ⟨⟨_, SqL.of eL2⟩, ?_⟩
    refine for_it (walk_list (xs := vs)) (fun i σ H' => ∃ o3 o4 o5 o6 o8 o9 o10 o11 o12 o13 tx Ns, σ = [some (.ref s0), some (.ref a), some (.ref L), o3, o4, o5, o6, some (.ref Tx), o8, o9, o10, o11, o12, o13] ∧ Same G H' ∧ H' Tx = some (.lst tx) ∧ TxAt tx (ds.take i) Ns)
      ⟨o3, o4, o5, o6, none, none, none, none, none, none, [], [], rfl, sX, eTx, .nil⟩ (fun i σ H' _ h => by
        obtain ⟨_, _, _, _, _, _, _, _, _, _, _, _, _, sg, _⟩ := h
        exact SqL.of (sg _ _ eLG)) ?_ ?_
    · rintro i z σ Ha Hb hi ⟨o3, o4, o5, o6, o8, o9, o10, o11, o12, o13, tx, Ns, rfl, sg, ex, ta⟩ ⟨rfl, ez⟩
      have hid : i < ds.length := by omega
      obtain ⟨t, wl, ml, xs, e1, et, ewl, eml, pr, dp⟩ := (dr.same sg).at (List.getElem?_eq_getElem hid)
      have tx1 : (ds.take (i + 1)) = ds.take i ++ [ds[i]] := by rw [List.take_add_one, List.getElem?_eq_getElem hid]; rfl
      obtain rfl : z = .ref t := Option.some.inj (ez.symm.trans e1)
      generalize ds[i] = d at et ewl eml pr dp tx1
      obtain ⟨W, M, n⟩ := d
      dsimp only at ewl pr dp
      refine ⟨t, [.ref wl, .ref ml], rfl, SqT.of et, rfl, _, _, rfl, _, _, rfl, rfl, ?_⟩
      have w1 := dp.w1
      have w12 := dp.w12
      have n1 := dp.n1
      have n6 := dp.n6
      have lTx := ta.len
      rw [List.length_take] at lTx
      walk_at "go"
      intro hh nhh
      have hTx : hh ≠ Tx := fun z => by rw [z, ex] at nhh; cases nhh
      have nG := sg.free nhh
      have wlh : wl ≠ hh := fun z => by rw [← z, ewl] at nhh; cases nhh
      have mlh : ml ≠ hh := fun z => by rw [← z, eml] at nhh; cases nhh
      have prh : ∀ m, Hb hh ≠ some (mT m) := fun m z => by rw [nhh] at z; cases z
      have sh := same_new (o := .lst xs) (Same.refl Hb) nhh
      have eh : upd Hb hh (.lst xs) hh = some (.lst xs) := upd_same
      replace sg := sg.trans sh
      replace ex := sh _ _ ex
      replace ewl := sh _ _ ewl
      replace eml := sh _ _ eml
      replace pr := pr.mono sh
      generalize upd Hb hh (.lst xs) = Hc at sg ex ewl eml pr eh ⊢
      clear sh nhh et
      have ewk : Hc wl = some (.lst (strsV W)) ∧ True := ⟨ewl, trivial⟩
      walk_at "go"
      refine ⟨⟨_, SqL.of ewk.1⟩, ?_⟩
      intro D hD
      refine lc_it (walk_list (xs := strsV W)) (fun i H' => ∃ ys, But D Hc H' ∧ H' D = some (.lst (refsV ys)) ∧ ColsAt AD.C_Column H' ys (W.take i)) ⟨[], But.upd (But.refl _ _), upd_same, by rw [List.take_zero]; exact .nil⟩
        (fun i H' hi ⟨_, b, _⟩ => SqL.of (same_but (Same.refl _) hD b _ _ ewk.1)) ?_ ?_
      · rintro i2 z2 Hd He hi2 ⟨ys, b2, e2, cs⟩ ⟨rfl, ez2⟩
        obtain ⟨l, hl, rfl⟩ : ∃ l, W[i2]? = some l ∧ z2 = .str (sOf l) := by
          unfold strsV at ez2
          rw [List.getElem?_map] at ez2
          cases h : W[i2]? with
          | none => rw [h] at ez2; cases ez2
          | some l => rw [h] at ez2; exact ⟨l, rfl, (Option.some.inj ez2).symm⟩
        have gl := dp.g.at hl
        have ll := gl.len
        have yl := cs.len
        have tl := List.length_take_le' i2 W
        walk_at "go"
        refine fun y dy ny ndy ne => col_made (good_fault gl n1 n6) (by omega) ny ndy ne fun H3 s3 c3 => ?_
        have e3 := s3 _ _ e2
        refine ⟨_, e3, small1000 (by rw [refsV_len]; omega), ys ++ [y], But.upd fun b o nb h => s3 b o (b2 b o nb h), ?_, ?_⟩
        · rw [upd_same]
          simp [refsV]
        · rw [List.take_add_one, hl]
          refine ColsAt.but (x := D) (fun l ⟨d, z⟩ => by rw [e3] at z; cases z) (H := H3) (fun b o nb h => (upd_ne nb).trans h) ?_
          exact ColsAt.snoc c3 (cs.mono s3)
      rintro Hd ⟨ys, b2, e2, cs⟩
      rw [strsV_len, List.take_length] at cs
      have s2 := same_but (Same.refl _) hD b2
      walk_at "go"
      intro x dx nx ndx ne
      have s3 : Same Hd (upd (upd Hd dx (.own x)) x (.ins AD.C_Card dx [])) := same_new (same_new (Same.refl Hd) ndx) ((upd_ne (Ne.symm ne)).trans nx)
      refine ⟨x, dx, D, ys, W, hh, xs, M, n, rfl, upd_same, s3 _ _ e2, cs.mono s3, dp.g, ⟨w1, w12⟩, ⟨n1, n6⟩, s3 _ _ (s2 _ _ eh), (pr.mono s2).mono s3, dp.ok, fun He b3 c3 => ⟨rfl, ?_⟩⟩
      have sHe : Same Hc He := fun b o e => b3 b o (ne_of_none (s2 _ _ e) nx) (s3 _ _ (s2 _ _ e))
      obtain ⟨N, cn, pN, sN⟩ := c3.toN
      replace sg := sg.trans sHe
      replace ex := sHe _ _ ex
      replace eml := sHe _ _ eml
      replace pr := pr.mono sHe
      have ewl2 := sHe _ _ ewk.1
      replace eh := sHe _ _ eh
      have lx := pr.len
      have few := dp.ok.few
      clear sHe s3 b3 c3 s2 e2 cs b2 hD ewl ewk nx ndx ne
      walk_at "go"
      refine ⟨szl (by show 2 ≤ 1000; decide), fun t0 nt0 => ?_⟩
      have s4 := same_new (o := .tup [.int 0, .int 1]) (Same.refl He) nt0
      replace sg := sg.trans s4
      replace ex := s4 _ _ ex
      replace eml := s4 _ _ eml
      replace pr := pr.mono s4
      replace ewl2 := s4 _ _ ewl2
      replace eh := s4 _ _ eh
      replace cn := cn.sm s4
      generalize upd He t0 (.tup [.int 0, .int 1]) = Hf at sg ex eml pr ewl2 eh cn ⊢
      clear s4 nt0
      walk_at "go"
      refine ⟨hh, xs, _, rfl, rfl, eh, small1000 (by omega), ?_⟩
      replace cn := cn.poke (ws := xs ++ [.ref t0]) eh
      replace pr := pr.keep (H' := upd Hf hh (.lst (xs ++ [.ref t0]))) (o := .lst []) (fun m z => by rw [eh] at z; cases z) fun c o nc e => (upd_ne nc).trans e
      replace ex : upd Hf hh (.lst (xs ++ [.ref t0])) Tx = _ := (upd_ne (Ne.symm hTx)).trans ex
      replace eml : upd Hf hh (.lst (xs ++ [.ref t0])) ml = _ := (upd_ne mlh).trans eml
      replace ewl2 : upd Hf hh (.lst (xs ++ [.ref t0])) wl = _ := (upd_ne wlh).trans ewl2
      replace sg : Same G (upd Hf hh (.lst (xs ++ [.ref t0]))) := fun c o e => (upd_ne (fun z => by rw [z, nG] at e; cases e)).trans (sg _ _ e)
      generalize upd Hf hh (.lst (xs ++ [.ref t0])) = Hg at sg ex eml pr ewl2 cn ⊢
      have small : ∀ m ∈ N, m.1 < 12 ∧ m.2 < 12 := fun m hm => by
        have := dp.ok.ok m (pN.mem_iff.mp hm)
        omega
      have lN : N.length ≤ 20 := by rw [pN.length_eq]; exact few
      walk_at "go"
      refine ⟨x, W, N, n, rfl, cn, w12, by omega, small, fun l hl => by have := (dp.g l hl).len; omega, fun Hh s5 => ?_⟩
      replace ex := s5 _ _ ex
      replace eml := s5 _ _ eml
      replace ewl2 := s5 _ _ ewl2
      replace pr := pr.mono s5
      replace sg := sg.trans s5
      clear s5 cn eh
      walk_at "go"
      refine ⟨_, _, _, _, true, rfl, .ty _, .base (.str _), kit_ty (by decide +kernel), ?_⟩
      walk_at "go"
      refine ⟨wl, ml, W, xs, M, n, rfl, ewl2, dp.g, ⟨w1, w12⟩, ⟨n1, n6⟩, eml, pr, dp.ok, fun N2 Hi pN2 sN2 s6 => ?_⟩
      obtain rfl : N2 = N := sorted_same (pN2.trans pN.symm) sN2 sN
      replace ex := s6 _ _ ex
      replace sg := sg.trans s6
      clear s6 pr eml ewl2
      walk_at "go"
      rw [not_same]
      walk_at "go"
      refine ⟨rfl, ?_⟩
      walk_at "go"
      refine ⟨V.ref AD.C_Card, [V.str (sOf [100, 111])], rfl, szl (by show 1 ≤ 1000; decide), fun p np => ?_⟩
      have s7 := same_new (o := .tup [V.str (sOf [100, 111])]) (Same.refl Hi) np
      refine ⟨p, AD.te_Card_of_words, [[100, 111]], 1, rfl, upd_same, do_good, ⟨by decide, by decide⟩, ⟨by decide, by decide⟩, T.D_Card_of_words.emp, fun y Hj s8 ny cy => ?_⟩
      obtain ⟨N0, cn0, p0, -⟩ := cy.toN
      obtain rfl : N0 = [] := p0.eq_nil
      replace ex := s8 _ _ (s7 _ _ ex)
      replace sg := (sg.trans s7).trans s8
      clear s7 s8 np cy
      walk_at "go"
      refine ⟨y, [[100, 111]], [], 1, rfl, cn0, by decide, by decide, fun _ h => (by cases h), fun l hl => (by rw [List.mem_singleton.mp hl]; decide), fun Hk s9 => ?_⟩
      rw [do_text]
      replace ex := s9 _ _ ex
      replace sg := sg.trans s9
      walk_at "go"
      refine ⟨Tx, tx, _, rfl, rfl, ex, small1000 (by omega), ?_⟩
      refine ⟨_, _, _, _, _, _, _, _, _, _, tx ++ [.str (txtOf W N2)], Ns ++ [N2], rfl, fun c o e => (upd_ne (fun z => by rw [z, nTx] at e; cases e)).trans (sg _ _ e), upd_same, ?_⟩
      rw [tx1]
      exact ta.snoc pN2 sN2
    rintro σ Ha ⟨o3, o4, o5, o6, o8, o9, o10, o11, o12, o13, tx, Ns, rfl, sg, ex, ta⟩
    rw [lvs, List.take_length] at ta
    have lT := ta.len
    have eLa := sg _ _ eLG
    have dra := dr.same sg
    clear sX eTx eL2 dr1
    walk_at "go"
    refine for_it (walk_range (lo := 0) (n := (2 : Int).toNat)) (fun i σ H' => ∃ o3 o4 o5 o6 o8 o9 o10 o11 o12 o13, σ = [some (.ref s0), some (.ref a), some (.ref L), o3, o4, o5, o6, some (.ref Tx), o8, o9, o10, o11, o12, o13] ∧ Same Ha H')
      ⟨o3, o4, o5, o6, o8, o9, o10, o11, o12, o13, rfl, Same.refl _⟩ (fun _ _ _ _ _ => trivial) ?_ ?_
    rotate_left
    · rintro σ Hb ⟨o3, o4, o5, o6, o8, o9, o10, o11, o12, o13, rfl, -⟩
      walk_at "go"
      exact q Hb
    rintro k w0 σ Hb Hc hk ⟨o3, o4, o5, o6, o8, o9, o10, o11, o12, o13, rfl, sb⟩ ⟨rfl, rfl⟩
    have hk2 : k < 2 := by simpa using hk
    have hkd : k < ds.length := by omega
    have hjd : 1 - k < ds.length := by omega
    obtain ⟨N, eN, pN, sN⟩ := ta.at (List.getElem?_eq_getElem hkd)
    obtain ⟨N', eN', pN', sN'⟩ := ta.at (List.getElem?_eq_getElem hjd)
    obtain ⟨t, wl, ml, xs, e1, et, ewl, eml, pr, dp⟩ := (dra.same sb).at (List.getElem?_eq_getElem hkd)
    obtain ⟨-, -, -, -, -, -, -, -, -, dp'⟩ := (dra.same sb).at (List.getElem?_eq_getElem hjd)
    have f0 : ∃ d, ds[0]? = some d := ⟨_, List.getElem?_eq_getElem (by omega)⟩
    have eqs : (k = 0 ∧ 1 - k = 1) ∨ (k = 1 ∧ 1 - k = 0) := by omega
    have aN : atI tx (0 + (k : Int)) = some (.str (txtOf (ds[k]).1 N)) := by rw [Int.zero_add]; exact atI_nat eN
    have aN' : atI tx (1 - (0 + (k : Int))) = some (.str (txtOf (ds[1 - k]).1 N')) := by rw [show 1 - (0 + (k : Int)) = ((1 - k : Nat) : Int) by omega]; exact atI_nat eN'
    have aL : atI vs (0 + (k : Int)) = some (.ref t) := by rw [Int.zero_add]; exact atI_nat e1
    have a0 : atI tx 0 = some (.str (if k = 0 then txtOf (ds[k]).1 N else txtOf (ds[1 - k]).1 N')) := by
      rcases eqs with ⟨z1, z2⟩ | ⟨z1, z2⟩
      · subst z1; exact atI_nat (j := 0) eN
      · subst z1; exact atI_nat (j := 0) eN'
    have a1 : atI tx 1 = some (.str (if k = 0 then txtOf (ds[1 - k]).1 N' else txtOf (ds[k]).1 N)) := by
      rcases eqs with ⟨z1, z2⟩ | ⟨z1, z2⟩
      · subst z1; exact atI_nat (j := 1) eN'
      · subst z1; exact atI_nat (j := 1) eN
    have eLb := sb _ _ eLa
    have exb := sb _ _ ex
    generalize ds[k] = d at eN pN e1 et ewl eml pr dp aN a0 a1
    generalize ds[1 - k] = d' at eN' pN' dp' aN' a0 a1
    obtain ⟨W, M, n⟩ := d
    obtain ⟨W', M', n'⟩ := d'
    dsimp only at *
    have w1 := dp.w1
    have w12 := dp.w12
    have n1 := dp.n1
    have n6 := dp.n6
    have okN : OkM N W.length n := ⟨pN.nodup_iff.mpr dp.ok.nd, fun m hm => dp.ok.ok m (pN.mem_iff.mp hm), by rw [pN.length_eq]; exact dp.ok.few⟩
    have okN' : OkM N' W'.length n' := ⟨pN'.nodup_iff.mpr dp'.ok.nd, fun m hm => dp'.ok.ok m (pN'.mem_iff.mp hm), by rw [pN'.length_eq]; exact dp'.ok.few⟩
    have clA := T.cl_Card
    have nA1 := T.n_Card_words
    have nA2 := T.n_Card_marks
    have nA3 := T.n_Card_columns
    have nA4 := T.n_Card_width
    have nA5 := T.n_Card_size
    have clC := T.cl_Column
    have nC := T.n_Column_word
    walk_at "go"
    refine ⟨L, _, _, _, rfl, rfl, SqL.of eLb, aL, ?_⟩
    refine ⟨t, [.ref wl, .ref ml], rfl, SqT.of et, rfl, _, _, rfl, _, _, rfl, rfl, ?_⟩
    walk_at "go"
    refine ⟨Tx, _, _, _, rfl, rfl, SqL.of exb, aN, ?_⟩
    walk_at "go"
    refine ⟨W, N, n, rfl, dp.g, ⟨w1, w12⟩, ⟨n1, n6⟩, okN, sN, fun x H1 s1 nx cx => ?_⟩
    obtain ⟨N1, cn, p1, so1⟩ := cx.toN
    obtain rfl : N = N1 := (sorted_same p1 so1 sN).symm
    replace sb := sb.trans s1
    replace exb := s1 _ _ exb
    replace ewl := s1 _ _ ewl
    replace eml := s1 _ _ eml
    replace pr := pr.mono s1
    clear s1 nx cx p1 so1 eLb et
    walk_at "go"
    refine ⟨_, _, _, _, true, rfl, .own _, card_ty T cn, T.ii_Card, ?_⟩
    have cn' := cn
    obtain ⟨dx, tc, tw, tm, ys, ms, ec, etc, cs, etw, etm, pm⟩ := cn'
    walk_at "go"
    refine ⟨tw, strsV W, rfl, .inr (SqT.of etw), fun l1 nl1 => ?_⟩
    have s2 := same_new (o := .lst (strsV W)) (Same.refl H1) nl1
    walk_at "go"
    refine neD_same (d := .list (W.map wdD)) (.lst (SqL.of upd_same) (strs_dp W)) (.lst (SqL.of (s2 _ _ ewl)) (strs_dp W)) (wds_ok dp.g n1 n6).1 ?_
    replace sb := sb.trans s2
    replace exb := s2 _ _ exb
    replace ewl := s2 _ _ ewl
    replace eml := s2 _ _ eml
    replace pr := pr.mono s2
    replace cn := cn.sm s2
    replace ec := s2 _ _ ec
    replace etc := s2 _ _ etc
    replace etm := s2 _ _ etm
    replace cs := cs.mono s2
    replace pm := pm.mono s2
    generalize upd H1 l1 (.lst (strsV W)) = H2 at sb exb ewl eml pr cn ec etc etm cs pm ⊢
    clear s2 nl1 etw
    walk_at "go"
    refine ⟨tm, ms, rfl, .inr (SqT.of etm), fun l2 nl2 => ?_⟩
    have s3 := same_new (o := .lst ms) (Same.refl H2) nl2
    have el2 : upd H2 l2 (.lst ms) l2 = some (.lst ms) := upd_same
    replace sb := sb.trans s3
    replace exb := s3 _ _ exb
    replace ewl := s3 _ _ ewl
    replace eml := s3 _ _ eml
    replace pr := pr.mono s3
    replace cn := cn.sm s3
    replace ec := s3 _ _ ec
    replace etc := s3 _ _ etc
    replace cs := cs.mono s3
    replace pm := pm.mono s3
    generalize upd H2 l2 (.lst ms) = H3 at sb exb ewl eml pr cn ec etc cs pm el2 ⊢
    clear s3 nl2 etm
    walk_at "go"
    unfold tNil
    refine sortP (K := K) eml pr fun ys2 p2 N2 pN2 sN2 hN2 np2 => ?_
    obtain rfl : N = N2 := (sorted_same (pN2.trans pN.symm) sN2 sN).symm
    have s4 := same_new (o := .lst ys2) (Same.refl H3) np2
    refine neD_same (d := .list (N.map mD)) (.lst (SqL.of (s4 _ _ el2)) (pm.mono s4).data) (.lst (SqL.of upd_same) (hN2.mono s4).data) (ok_mDs N).1 ?_
    replace sb := sb.trans s4
    replace exb := s4 _ _ exb
    replace ewl := s4 _ _ ewl
    replace eml := s4 _ _ eml
    replace pr := pr.mono s4
    replace cn := cn.sm s4
    replace ec := s4 _ _ ec
    replace etc := s4 _ _ etc
    replace cs := cs.mono s4
    generalize upd H3 p2 (.lst ys2) = H4 at sb exb ewl eml pr cn ec etc cs ⊢
    clear s4 np2 hN2 pN2 sN2 el2 pm
    walk_at "go"
    have ewk : H4 wl = some (.lst (strsV W)) ∧ True := ⟨ewl, trivial⟩
    refine ⟨⟨_, SqL.of ewk.1⟩, ?_⟩
    intro D hD
    refine lc_it (walk_list (xs := strsV W)) (fun i H' => ∃ ys, But D H4 H' ∧ H' D = some (.lst (refsV ys)) ∧ ColsAt AD.C_Column H' ys (W.take i)) ⟨[], But.upd (But.refl _ _), upd_same, by rw [List.take_zero]; exact .nil⟩
      (fun i H' hi ⟨_, b, _⟩ => SqL.of (same_but (Same.refl _) hD b _ _ ewk.1)) ?_ ?_
    · rintro i2 z2 Hd He hi2 ⟨ys3, b2, e2, cs3⟩ ⟨rfl, ez2⟩
      obtain ⟨l, hl, rfl⟩ : ∃ l, W[i2]? = some l ∧ z2 = .str (sOf l) := by
        unfold strsV at ez2
        rw [List.getElem?_map] at ez2
        cases h : W[i2]? with
        | none => rw [h] at ez2; cases ez2
        | some l => rw [h] at ez2; exact ⟨l, rfl, (Option.some.inj ez2).symm⟩
      have gl := dp.g.at hl
      have ll := gl.len
      have yl := cs3.len
      have tl := List.length_take_le' i2 W
      walk_at "go"
      refine fun y dy ny ndy ne => col_made (good_fault gl n1 n6) (by omega) ny ndy ne fun H3 s3 c3 => ?_
      have e3 := s3 _ _ e2
      refine ⟨_, e3, small1000 (by rw [refsV_len]; omega), ys3 ++ [y], But.upd fun b o nb h => s3 b o (b2 b o nb h), ?_, ?_⟩
      · rw [upd_same]
        simp [refsV]
      · rw [List.take_add_one, hl]
        refine ColsAt.but (x := D) (fun l ⟨d, z⟩ => by rw [e3] at z; cases z) (H := H3) (fun b o nb h => (upd_ne nb).trans h) ?_
        exact ColsAt.snoc c3 (cs3.mono s3)
    rintro Hd ⟨ys3, b2, e2, cs3⟩
    rw [strsV_len, List.take_length] at cs3
    have s2 := same_but (Same.refl _) hD b2
    walk_at "go"
    intro y dy ny ndy ne
    have s3 : Same Hd (upd (upd Hd dy (.own y)) y (.ins AD.C_Card dy [])) := same_new (same_new (Same.refl Hd) ndy) ((upd_ne (Ne.symm ne)).trans ny)
    refine ⟨y, dy, D, ys3, W, ml, xs, M, n, rfl, upd_same, s3 _ _ e2, cs3.mono s3, dp.g, ⟨w1, w12⟩, ⟨n1, n6⟩, s3 _ _ (s2 _ _ eml), (pr.mono s2).mono s3, dp.ok, fun He b3 c3 => ⟨rfl, ?_⟩⟩
    have s4 : Same H4 He := fun b o e => b3 b o (ne_of_none (s2 _ _ e) ny) (s3 _ _ (s2 _ _ e))
    obtain ⟨N3, cn3, p3, so3⟩ := c3.toN
    obtain rfl : N = N3 := (sorted_same (p3.trans pN.symm) so3 sN).symm
    replace sb := sb.trans s4
    replace exb := s4 _ _ exb
    replace ewl := s4 _ _ ewl
    replace cn := cn.sm s4
    replace ec := s4 _ _ ec
    replace etc := s4 _ _ etc
    replace cs := cs.mono s4
    clear s4 s3 s2 b3 c3 b2 e2 cs3 ewk hD ny ndy ne p3 so3 eml pr
    have cn3' := cn3
    obtain ⟨dx3, _, _, _, _, _, ec3, _⟩ := cn3'
    refine ⟨x, dx, _, rfl, ec, .ins ec3, x, y, W, N, n, W, N, n, rfl, cn, cn3, dp.g, dp.g, ⟨n1, n6⟩, ⟨n1, n6⟩, _, rfl, ?_⟩
    rw [if_pos rfl, show decide (W = W ∧ N = N) = true by simp]
    clear cn3 ec3
    have small : ∀ m ∈ N, m.1 < 12 ∧ m.2 < 12 := fun m hm => by
      have := okN.ok m hm
      omega
    have small' : ∀ m ∈ N', m.1 < 12 ∧ m.2 < 12 := fun m hm => by
      have := okN'.ok m hm
      have := dp'.w12
      have := dp'.n6
      omega
    have lN := okN.few
    walk_at "go"
    refine ⟨x, W, N, n, rfl, cn, w12, by omega, small, fun l hl => (by have := (dp.g l hl).len; omega), fun H5 s5 => ?_⟩
    replace sb := sb.trans s5
    replace exb := s5 _ _ exb
    replace ewl := s5 _ _ ewl
    replace cn := cn.sm s5
    replace ec := s5 _ _ ec
    replace etc := s5 _ _ etc
    replace cs := cs.mono s5
    clear s5
    walk_at "go"
    refine ⟨Tx, _, _, _, rfl, rfl, SqL.of exb, aN, ?_⟩
    walk_at "go"
    rw [not_same]
    walk_at "go"
    refine ⟨⟨_, SqT.of etc⟩, ?_⟩
    intro D hD
    refine lc_it (walk_tup (xs := refsV ys)) (fun i H' => But D H5 H' ∧ H' D = some (.lst (strsV (W.take i)))) ⟨But.upd (But.refl _ _), upd_same⟩ (fun i H' _ b => SqT.of (same_but (Same.refl _) hD b.1 _ _ etc)) ?_ ?_
    · rintro i z Ha2 Hb2 hi ⟨bt, e3⟩ ⟨rfl, ez⟩
      have yl := cs.len
      rw [refsV_len] at hi
      have hl : W[i]? = some W[i] := List.getElem?_eq_getElem (by omega)
      obtain ⟨yc, eyc, cyc⟩ := (cs.mono (same_but (Same.refl _) hD bt)).at hl
      obtain rfl : z = .ref yc := Option.some.inj (ez.symm.trans (refsV_at eyc))
      obtain ⟨dc, ecc⟩ := cyc
      walk_at "go"
      refine ⟨_, e3, small1000 (by rw [strsV_len, List.length_take]; omega), But.upd bt, ?_⟩
      rw [upd_same, strsV_snoc, List.take_add_one, hl]
      rfl
    rintro H6 ⟨bt, e3⟩
    rw [refsV_len, cs.len, List.take_length] at e3
    have s6 := same_but (Same.refl _) hD bt
    replace sb := sb.trans s6
    replace exb := s6 _ _ exb
    replace ewl := s6 _ _ ewl
    replace cn := cn.sm s6
    replace ec := s6 _ _ ec
    clear s6 bt hD etc cs
    have lsv := strsV_len W
    obtain ⟨l0, hl0⟩ : ∃ l0, W[0]? = some l0 := ⟨_, List.getElem?_eq_getElem (by omega)⟩
    have g0 := (dp.g.at hl0).len
    walk_at "go"
    refine neD_same (d := .list (W.map wdD)) (.lst (SqL.of e3) (strs_dp W)) (.lst (SqL.of ewl) (strs_dp W)) (wds_ok dp.g n1 n6).1 ?_
    walk_at "go"
    rw [lsv, not_same]
    walk_at "go"
    refine ⟨wl, _, 0, _, rfl, rfl, SqL.of ewl, atI_nat (j := 0) (strsV_at hl0), ?_⟩
    walk_at "go"
    refine ite2 (fun e => ?_) (fun _ => ?_)
    · exfalso
      have : ¬ (2 * (n : Int) = (l0.length : Nat)) := by simpa using e
      omega
    walk_at "go"
    refine ⟨Tx, _, _, _, rfl, rfl, SqL.of exb, aN, ?_⟩
    walk_at "go"
    refine ⟨W, N, n, rfl, dp.g, ⟨w1, w12⟩, ⟨n1, n6⟩, okN, sN, fun y H7 s7 ny cy => ?_⟩
    obtain ⟨N4, cn4, p4, so4⟩ := cy.toN
    obtain rfl : N = N4 := (sorted_same p4 so4 sN).symm
    replace sb := sb.trans s7
    replace exb := s7 _ _ exb
    replace cn := cn.sm s7
    replace ec := s7 _ _ ec
    have cn4' := cn4
    obtain ⟨dx4, _, _, _, _, _, ec4, _⟩ := cn4'
    clear s7 ny cy p4 so4 ewl e3
    walk_at "go"
    refine ⟨y, dx4, _, rfl, ec4, .ins ec, y, x, W, N, n, W, N, n, rfl, cn4, cn, dp.g, dp.g, ⟨n1, n6⟩, ⟨n1, n6⟩, _, rfl, ?_⟩
    rw [if_pos rfl, show decide (W = W ∧ N = N) = true by simp]
    clear cn4 ec4
    walk_at "go"
    refine ⟨Tx, _, _, _, rfl, rfl, SqL.of exb, aN', ?_⟩
    walk_at "go"
    refine ⟨W', N', n', rfl, dp'.g, ⟨dp'.w1, dp'.w12⟩, ⟨dp'.n1, dp'.n6⟩, okN', sN', fun z H8 s8 nz cz => ?_⟩
    obtain ⟨N5, cn5, p5, so5⟩ := cz.toN
    obtain rfl : N' = N5 := (sorted_same p5 so5 sN').symm
    replace sb := sb.trans s8
    replace exb := s8 _ _ exb
    replace cn := cn.sm s8
    replace ec := s8 _ _ ec
    have cn5' := cn5
    obtain ⟨dx5, _, _, _, _, _, ec5, _⟩ := cn5'
    clear s8 nz cz p5 so5
    walk_at "go"
    refine ⟨z, dx5, _, rfl, ec5, .ins ec, z, x, W', N', n', W, N, n, rfl, cn5, cn, dp'.g, dp.g, ⟨dp'.n1, dp'.n6⟩, ⟨n1, n6⟩, _, rfl, ?_⟩
    rw [if_neg Bool.false_ne_true]
    have inj := txtOf_inj dp'.g dp.g ⟨dp'.n1, dp'.n6⟩ ⟨n1, n6⟩ dp'.w1 w1 small' small
    walk_at "go"
    refine ⟨Tx, _, 0, _, rfl, rfl, SqL.of exb, a0, ?_⟩
    walk_at "go"
    refine ⟨Tx, _, 1, _, rfl, rfl, SqL.of exb, a1, ?_⟩
    walk_at "go"
    have hv : decide (V.str (if k = 0 then txtOf W N else txtOf W' N') = V.str (if k = 0 then txtOf W' N' else txtOf W N)) = decide (W' = W ∧ N' = N) := by
      rw [decide_eq_decide, ← inj]
      rcases eqs with ⟨z1, _⟩ | ⟨z1, _⟩
      · rw [if_pos z1, if_pos z1]
        exact ⟨fun e => (V.str.inj e).symm, fun e => by rw [e]⟩
      · rw [if_neg (by omega), if_neg (by omega)]
        exact ⟨fun e => V.str.inj e, fun e => by rw [e]⟩
    refine ⟨rfl, ?_⟩
    rw [hv]
    refine ⟨rfl, ?_⟩
    rw [not_same]
    walk_at "go"
    exact ⟨_, _, _, _, _, _, _, _, _, _, rfl, sb⟩
end

theorem all_mk {P : Program} {w : World} {K : PySem.W.Frag} {h : Heap} {mg : Str → Option Value} {fa : Addr} (X : K.In h) (G : h.Ns mainGlobals mg) (hfa : mg "law" = some (.ref fa))
    {C_CardError C_NoColumn C_BadColumn C_BadBoundary C_BadText C_BadCard C_Column C_Card f_is_number f_is_whole f_is_sequence f_word_fault f_common_steps f_check_columns f_mark_of f_new_marks f_card_text f_is_number_text f_slit_of f_is_word_row f_word_row_fault f_slit_row_fault f_parse_card f_l_mix f_l_hand f_l_draw f_l_word f_l_near f_l_words f_l_marks f_l_text f_law f_NoColumn___init__ f_BadColumn___init__ f_BadBoundary___init__ f_BadText___init__ f_BadCard___init__ f_Column___init__ f_Column_many f_Column_heights p_Column_heights f_Column___eq__ f_Column___str__ f_Column___len__ f_Column___iter__ f_Card___init__ f_Card_of_words p_Card_of_words te_Card_of_words f_Card_common f_Card___eq__ f_Card___len__ f_Card___iter__ : Addr}
    {od_is_number : Option Addr}
    {an_is_number : Option Addr}
    {sl_is_number : Array (Option Value)}
    {oc_is_number kV_is_number dc_is_number pm_is_number cd_is_number ct_is_number : Value}
    {od_is_whole : Option Addr}
    {an_is_whole : Option Addr}
    {sl_is_whole : Array (Option Value)}
    {oc_is_whole kV_is_whole dc_is_whole pm_is_whole cd_is_whole ct_is_whole : Value}
    {od_is_sequence : Option Addr}
    {an_is_sequence : Option Addr}
    {sl_is_sequence : Array (Option Value)}
    {oc_is_sequence kV_is_sequence dc_is_sequence pm_is_sequence cd_is_sequence ct_is_sequence : Value}
    {od_word_fault : Option Addr}
    {an_word_fault : Option Addr}
    {sl_word_fault : Array (Option Value)}
    {oc_word_fault kV_word_fault dc_word_fault pm_word_fault cd_word_fault ct_word_fault : Value}
    {od_common_steps : Option Addr}
    {an_common_steps : Option Addr}
    {sl_common_steps : Array (Option Value)}
    {oc_common_steps kV_common_steps dc_common_steps pm_common_steps cd_common_steps ct_common_steps : Value}
    {od_check_columns : Option Addr}
    {an_check_columns : Option Addr}
    {sl_check_columns : Array (Option Value)}
    {oc_check_columns kV_check_columns dc_check_columns pm_check_columns cd_check_columns ct_check_columns : Value}
    {od_mark_of : Option Addr}
    {an_mark_of : Option Addr}
    {sl_mark_of : Array (Option Value)}
    {oc_mark_of kV_mark_of dc_mark_of pm_mark_of cd_mark_of ct_mark_of : Value}
    {od_new_marks : Option Addr}
    {an_new_marks : Option Addr}
    {sl_new_marks : Array (Option Value)}
    {oc_new_marks kV_new_marks dc_new_marks pm_new_marks cd_new_marks ct_new_marks : Value}
    {od_card_text : Option Addr}
    {an_card_text : Option Addr}
    {sl_card_text : Array (Option Value)}
    {oc_card_text kV_card_text dc_card_text pm_card_text cd_card_text ct_card_text : Value}
    {od_is_number_text : Option Addr}
    {an_is_number_text : Option Addr}
    {sl_is_number_text : Array (Option Value)}
    {oc_is_number_text kV_is_number_text dc_is_number_text pm_is_number_text cd_is_number_text ct_is_number_text : Value}
    {od_slit_of : Option Addr}
    {an_slit_of : Option Addr}
    {sl_slit_of : Array (Option Value)}
    {oc_slit_of kV_slit_of dc_slit_of pm_slit_of cd_slit_of ct_slit_of : Value}
    {od_is_word_row : Option Addr}
    {an_is_word_row : Option Addr}
    {sl_is_word_row : Array (Option Value)}
    {oc_is_word_row kV_is_word_row dc_is_word_row pm_is_word_row cd_is_word_row ct_is_word_row : Value}
    {od_word_row_fault : Option Addr}
    {an_word_row_fault : Option Addr}
    {sl_word_row_fault : Array (Option Value)}
    {oc_word_row_fault kV_word_row_fault dc_word_row_fault pm_word_row_fault cd_word_row_fault ct_word_row_fault : Value}
    {od_slit_row_fault : Option Addr}
    {an_slit_row_fault : Option Addr}
    {sl_slit_row_fault : Array (Option Value)}
    {oc_slit_row_fault kV_slit_row_fault dc_slit_row_fault pm_slit_row_fault cd_slit_row_fault ct_slit_row_fault : Value}
    {od_parse_card : Option Addr}
    {an_parse_card : Option Addr}
    {sl_parse_card : Array (Option Value)}
    {oc_parse_card kV_parse_card dc_parse_card pm_parse_card cd_parse_card ct_parse_card : Value}
    {od_l_mix : Option Addr}
    {an_l_mix : Option Addr}
    {sl_l_mix : Array (Option Value)}
    {oc_l_mix kV_l_mix dc_l_mix pm_l_mix cd_l_mix ct_l_mix : Value}
    {od_l_hand : Option Addr}
    {an_l_hand : Option Addr}
    {sl_l_hand : Array (Option Value)}
    {oc_l_hand kV_l_hand dc_l_hand pm_l_hand cd_l_hand ct_l_hand : Value}
    {od_l_draw : Option Addr}
    {an_l_draw : Option Addr}
    {sl_l_draw : Array (Option Value)}
    {oc_l_draw kV_l_draw dc_l_draw pm_l_draw cd_l_draw ct_l_draw : Value}
    {od_l_word : Option Addr}
    {an_l_word : Option Addr}
    {sl_l_word : Array (Option Value)}
    {oc_l_word kV_l_word dc_l_word pm_l_word cd_l_word ct_l_word : Value}
    {od_l_near : Option Addr}
    {an_l_near : Option Addr}
    {sl_l_near : Array (Option Value)}
    {oc_l_near kV_l_near dc_l_near pm_l_near cd_l_near ct_l_near : Value}
    {od_l_words : Option Addr}
    {an_l_words : Option Addr}
    {sl_l_words : Array (Option Value)}
    {oc_l_words kV_l_words dc_l_words pm_l_words cd_l_words ct_l_words : Value}
    {od_l_marks : Option Addr}
    {an_l_marks : Option Addr}
    {sl_l_marks : Array (Option Value)}
    {oc_l_marks kV_l_marks dc_l_marks pm_l_marks cd_l_marks ct_l_marks : Value}
    {od_l_text : Option Addr}
    {an_l_text : Option Addr}
    {sl_l_text : Array (Option Value)}
    {oc_l_text kV_l_text dc_l_text pm_l_text cd_l_text ct_l_text : Value}
    {od_law : Option Addr}
    {an_law : Option Addr}
    {sl_law : Array (Option Value)}
    {oc_law kV_law dc_law pm_law cd_law ct_law : Value}
    {od_NoColumn___init__ : Option Addr}
    {an_NoColumn___init__ : Option Addr}
    {sl_NoColumn___init__ : Array (Option Value)}
    {oc_NoColumn___init__ kV_NoColumn___init__ dc_NoColumn___init__ pm_NoColumn___init__ cd_NoColumn___init__ ct_NoColumn___init__ : Value}
    {od_BadColumn___init__ : Option Addr}
    {an_BadColumn___init__ : Option Addr}
    {sl_BadColumn___init__ : Array (Option Value)}
    {oc_BadColumn___init__ kV_BadColumn___init__ dc_BadColumn___init__ pm_BadColumn___init__ cd_BadColumn___init__ ct_BadColumn___init__ : Value}
    {od_BadBoundary___init__ : Option Addr}
    {an_BadBoundary___init__ : Option Addr}
    {sl_BadBoundary___init__ : Array (Option Value)}
    {oc_BadBoundary___init__ kV_BadBoundary___init__ dc_BadBoundary___init__ pm_BadBoundary___init__ cd_BadBoundary___init__ ct_BadBoundary___init__ : Value}
    {od_BadText___init__ : Option Addr}
    {an_BadText___init__ : Option Addr}
    {sl_BadText___init__ : Array (Option Value)}
    {oc_BadText___init__ kV_BadText___init__ dc_BadText___init__ pm_BadText___init__ cd_BadText___init__ ct_BadText___init__ : Value}
    {od_BadCard___init__ : Option Addr}
    {an_BadCard___init__ : Option Addr}
    {sl_BadCard___init__ : Array (Option Value)}
    {oc_BadCard___init__ kV_BadCard___init__ dc_BadCard___init__ pm_BadCard___init__ cd_BadCard___init__ ct_BadCard___init__ : Value}
    {od_Column___init__ : Option Addr}
    {an_Column___init__ : Option Addr}
    {sl_Column___init__ : Array (Option Value)}
    {oc_Column___init__ kV_Column___init__ dc_Column___init__ pm_Column___init__ cd_Column___init__ ct_Column___init__ : Value}
    {od_Column_many : Option Addr}
    {an_Column_many : Option Addr}
    {sl_Column_many : Array (Option Value)}
    {oc_Column_many kV_Column_many dc_Column_many pm_Column_many cd_Column_many ct_Column_many : Value}
    {od_Column_heights : Option Addr}
    {an_Column_heights : Option Addr}
    {sl_Column_heights : Array (Option Value)}
    {oc_Column_heights kV_Column_heights dc_Column_heights pm_Column_heights cd_Column_heights ct_Column_heights : Value}
    {re_Column_heights : List Value}
    {od_Column___eq__ : Option Addr}
    {an_Column___eq__ : Option Addr}
    {sl_Column___eq__ : Array (Option Value)}
    {oc_Column___eq__ kV_Column___eq__ dc_Column___eq__ pm_Column___eq__ cd_Column___eq__ ct_Column___eq__ : Value}
    {od_Column___str__ : Option Addr}
    {an_Column___str__ : Option Addr}
    {sl_Column___str__ : Array (Option Value)}
    {oc_Column___str__ kV_Column___str__ dc_Column___str__ pm_Column___str__ cd_Column___str__ ct_Column___str__ : Value}
    {od_Column___len__ : Option Addr}
    {an_Column___len__ : Option Addr}
    {sl_Column___len__ : Array (Option Value)}
    {oc_Column___len__ kV_Column___len__ dc_Column___len__ pm_Column___len__ cd_Column___len__ ct_Column___len__ : Value}
    {od_Column___iter__ : Option Addr}
    {an_Column___iter__ : Option Addr}
    {sl_Column___iter__ : Array (Option Value)}
    {oc_Column___iter__ kV_Column___iter__ dc_Column___iter__ pm_Column___iter__ cd_Column___iter__ ct_Column___iter__ : Value}
    {od_Card___init__ : Option Addr}
    {an_Card___init__ : Option Addr}
    {sl_Card___init__ : Array (Option Value)}
    {oc_Card___init__ kV_Card___init__ dc_Card___init__ pm_Card___init__ cd_Card___init__ ct_Card___init__ : Value}
    {dt_Card___init__ : Addr}
    {dc0_Card___init__ : Value} {do_Card___init__ : Option Addr} {ds_Card___init__ : Array (Option Value)} {dn_Card___init__ : Nat} {dv0_Card___init__ : Value}
    {od_Card_of_words : Option Addr}
    {an_Card_of_words : Option Addr}
    {sl_Card_of_words : Array (Option Value)}
    {oc_Card_of_words dc_Card_of_words pm_Card_of_words cd_Card_of_words ct_Card_of_words : Value}
    {re_Card_of_words : List Value}
    {kd_Card_of_words : Addr} {en_Card_of_words : Nat} {eoc_Card_of_words : Option Addr} {eos_Card_of_words : Array (Option Value)}
    {od_Card_common : Option Addr}
    {an_Card_common : Option Addr}
    {sl_Card_common : Array (Option Value)}
    {oc_Card_common kV_Card_common dc_Card_common pm_Card_common cd_Card_common ct_Card_common : Value}
    {od_Card___eq__ : Option Addr}
    {an_Card___eq__ : Option Addr}
    {sl_Card___eq__ : Array (Option Value)}
    {oc_Card___eq__ kV_Card___eq__ dc_Card___eq__ pm_Card___eq__ cd_Card___eq__ ct_Card___eq__ : Value}
    {od_Card___len__ : Option Addr}
    {an_Card___len__ : Option Addr}
    {sl_Card___len__ : Array (Option Value)}
    {oc_Card___len__ kV_Card___len__ dc_Card___len__ pm_Card___len__ cd_Card___len__ ct_Card___len__ : Value}
    {od_Card___iter__ : Option Addr}
    {an_Card___iter__ : Option Addr}
    {sl_Card___iter__ : Array (Option Value)}
    {oc_Card___iter__ kV_Card___iter__ dc_Card___iter__ pm_Card___iter__ cd_Card___iter__ ct_Card___iter__ : Value}
    {nm_NoColumn q_NoColumn : Str} {N_NoColumn : Addr} {bs_NoColumn bm_NoColumn sb_NoColumn : List Value} {sn_NoColumn : List Str} {ab_NoColumn : Bool} {co_NoColumn : Option Bool} {dd_NoColumn : Option Addr} {m0_NoColumn m1_NoColumn m2_NoColumn m3_NoColumn m5_NoColumn : Option Value}
    {nm_BadColumn q_BadColumn : Str} {N_BadColumn : Addr} {bs_BadColumn bm_BadColumn sb_BadColumn : List Value} {sn_BadColumn : List Str} {ab_BadColumn : Bool} {co_BadColumn : Option Bool} {dd_BadColumn : Option Addr} {m0_BadColumn m1_BadColumn m2_BadColumn m3_BadColumn m5_BadColumn : Option Value}
    {nm_BadBoundary q_BadBoundary : Str} {N_BadBoundary : Addr} {bs_BadBoundary bm_BadBoundary sb_BadBoundary : List Value} {sn_BadBoundary : List Str} {ab_BadBoundary : Bool} {co_BadBoundary : Option Bool} {dd_BadBoundary : Option Addr} {m0_BadBoundary m1_BadBoundary m2_BadBoundary m3_BadBoundary m5_BadBoundary : Option Value}
    {nm_BadText q_BadText : Str} {N_BadText : Addr} {bs_BadText bm_BadText sb_BadText : List Value} {sn_BadText : List Str} {ab_BadText : Bool} {co_BadText : Option Bool} {dd_BadText : Option Addr} {m0_BadText m1_BadText m2_BadText m3_BadText m5_BadText : Option Value}
    {nm_BadCard q_BadCard : Str} {N_BadCard : Addr} {bs_BadCard bm_BadCard sb_BadCard : List Value} {sn_BadCard : List Str} {ab_BadCard : Bool} {co_BadCard : Option Bool} {dd_BadCard : Option Addr} {m0_BadCard m1_BadCard m2_BadCard m3_BadCard m5_BadCard : Option Value}
    {tk_MOST_SIZE : Tok}
    {tk_MOST_WIDTH : Tok}
    {tk_MOST_DIGITS : Tok}
    {tk_DIGITS : Tok}
    (ac_CardError : PySem.W.nsIn K mainGlobals "CardError" = some (some (.ref C_CardError)))
    (ac_NoColumn : PySem.W.nsIn K mainGlobals "NoColumn" = some (some (.ref C_NoColumn)))
    (ac_BadColumn : PySem.W.nsIn K mainGlobals "BadColumn" = some (some (.ref C_BadColumn)))
    (ac_BadBoundary : PySem.W.nsIn K mainGlobals "BadBoundary" = some (some (.ref C_BadBoundary)))
    (ac_BadText : PySem.W.nsIn K mainGlobals "BadText" = some (some (.ref C_BadText)))
    (ac_BadCard : PySem.W.nsIn K mainGlobals "BadCard" = some (some (.ref C_BadCard)))
    (ac_Column : PySem.W.nsIn K mainGlobals "Column" = some (some (.ref C_Column)))
    (ac_Card : PySem.W.nsIn K mainGlobals "Card" = some (some (.ref C_Card)))
    (a_is_number : PySem.W.nsIn K mainGlobals "is_number" = some (some (.ref f_is_number)))
    (l_is_number : K.lookup f_is_number = some ⟨oc_is_number, od_is_number, .func (PySem.W.fnOf "is_number" "is_number" (defArgs s_is_number) (defBody s_is_number) (defScope s_is_number) .none kV_is_number dc_is_number pm_is_number an_is_number cd_is_number ct_is_number), sl_is_number⟩)
    (c_is_number : PySem.W.codeIn K cd_is_number "is_number" = true)
    (k_is_number : PySem.W.keepIn K (.ref f_is_number) = true)
    (a_is_whole : PySem.W.nsIn K mainGlobals "is_whole" = some (some (.ref f_is_whole)))
    (l_is_whole : K.lookup f_is_whole = some ⟨oc_is_whole, od_is_whole, .func (PySem.W.fnOf "is_whole" "is_whole" (defArgs s_is_whole) (defBody s_is_whole) (defScope s_is_whole) .none kV_is_whole dc_is_whole pm_is_whole an_is_whole cd_is_whole ct_is_whole), sl_is_whole⟩)
    (c_is_whole : PySem.W.codeIn K cd_is_whole "is_whole" = true)
    (k_is_whole : PySem.W.keepIn K (.ref f_is_whole) = true)
    (a_is_sequence : PySem.W.nsIn K mainGlobals "is_sequence" = some (some (.ref f_is_sequence)))
    (l_is_sequence : K.lookup f_is_sequence = some ⟨oc_is_sequence, od_is_sequence, .func (PySem.W.fnOf "is_sequence" "is_sequence" (defArgs s_is_sequence) (defBody s_is_sequence) (defScope s_is_sequence) .none kV_is_sequence dc_is_sequence pm_is_sequence an_is_sequence cd_is_sequence ct_is_sequence), sl_is_sequence⟩)
    (c_is_sequence : PySem.W.codeIn K cd_is_sequence "is_sequence" = true)
    (k_is_sequence : PySem.W.keepIn K (.ref f_is_sequence) = true)
    (a_word_fault : PySem.W.nsIn K mainGlobals "word_fault" = some (some (.ref f_word_fault)))
    (l_word_fault : K.lookup f_word_fault = some ⟨oc_word_fault, od_word_fault, .func (PySem.W.fnOf "word_fault" "word_fault" (defArgs s_word_fault) (defBody s_word_fault) (defScope s_word_fault) .none kV_word_fault dc_word_fault pm_word_fault an_word_fault cd_word_fault ct_word_fault), sl_word_fault⟩)
    (c_word_fault : PySem.W.codeIn K cd_word_fault "word_fault" = true)
    (k_word_fault : PySem.W.keepIn K (.ref f_word_fault) = true)
    (a_common_steps : PySem.W.nsIn K mainGlobals "common_steps" = some (some (.ref f_common_steps)))
    (l_common_steps : K.lookup f_common_steps = some ⟨oc_common_steps, od_common_steps, .func (PySem.W.fnOf "common_steps" "common_steps" (defArgs s_common_steps) (defBody s_common_steps) (defScope s_common_steps) .none kV_common_steps dc_common_steps pm_common_steps an_common_steps cd_common_steps ct_common_steps), sl_common_steps⟩)
    (c_common_steps : PySem.W.codeIn K cd_common_steps "common_steps" = true)
    (k_common_steps : PySem.W.keepIn K (.ref f_common_steps) = true)
    (a_check_columns : PySem.W.nsIn K mainGlobals "check_columns" = some (some (.ref f_check_columns)))
    (l_check_columns : K.lookup f_check_columns = some ⟨oc_check_columns, od_check_columns, .func (PySem.W.fnOf "check_columns" "check_columns" (defArgs s_check_columns) (defBody s_check_columns) (defScope s_check_columns) .none kV_check_columns dc_check_columns pm_check_columns an_check_columns cd_check_columns ct_check_columns), sl_check_columns⟩)
    (c_check_columns : PySem.W.codeIn K cd_check_columns "check_columns" = true)
    (k_check_columns : PySem.W.keepIn K (.ref f_check_columns) = true)
    (a_mark_of : PySem.W.nsIn K mainGlobals "mark_of" = some (some (.ref f_mark_of)))
    (l_mark_of : K.lookup f_mark_of = some ⟨oc_mark_of, od_mark_of, .func (PySem.W.fnOf "mark_of" "mark_of" (defArgs s_mark_of) (defBody s_mark_of) (defScope s_mark_of) .none kV_mark_of dc_mark_of pm_mark_of an_mark_of cd_mark_of ct_mark_of), sl_mark_of⟩)
    (c_mark_of : PySem.W.codeIn K cd_mark_of "mark_of" = true)
    (k_mark_of : PySem.W.keepIn K (.ref f_mark_of) = true)
    (a_new_marks : PySem.W.nsIn K mainGlobals "new_marks" = some (some (.ref f_new_marks)))
    (l_new_marks : K.lookup f_new_marks = some ⟨oc_new_marks, od_new_marks, .func (PySem.W.fnOf "new_marks" "new_marks" (defArgs s_new_marks) (defBody s_new_marks) (defScope s_new_marks) .none kV_new_marks dc_new_marks pm_new_marks an_new_marks cd_new_marks ct_new_marks), sl_new_marks⟩)
    (c_new_marks : PySem.W.codeIn K cd_new_marks "new_marks" = true)
    (k_new_marks : PySem.W.keepIn K (.ref f_new_marks) = true)
    (a_card_text : PySem.W.nsIn K mainGlobals "card_text" = some (some (.ref f_card_text)))
    (l_card_text : K.lookup f_card_text = some ⟨oc_card_text, od_card_text, .func (PySem.W.fnOf "card_text" "card_text" (defArgs s_card_text) (defBody s_card_text) (defScope s_card_text) .none kV_card_text dc_card_text pm_card_text an_card_text cd_card_text ct_card_text), sl_card_text⟩)
    (c_card_text : PySem.W.codeIn K cd_card_text "card_text" = true)
    (k_card_text : PySem.W.keepIn K (.ref f_card_text) = true)
    (a_is_number_text : PySem.W.nsIn K mainGlobals "is_number_text" = some (some (.ref f_is_number_text)))
    (l_is_number_text : K.lookup f_is_number_text = some ⟨oc_is_number_text, od_is_number_text, .func (PySem.W.fnOf "is_number_text" "is_number_text" (defArgs s_is_number_text) (defBody s_is_number_text) (defScope s_is_number_text) .none kV_is_number_text dc_is_number_text pm_is_number_text an_is_number_text cd_is_number_text ct_is_number_text), sl_is_number_text⟩)
    (c_is_number_text : PySem.W.codeIn K cd_is_number_text "is_number_text" = true)
    (k_is_number_text : PySem.W.keepIn K (.ref f_is_number_text) = true)
    (a_slit_of : PySem.W.nsIn K mainGlobals "slit_of" = some (some (.ref f_slit_of)))
    (l_slit_of : K.lookup f_slit_of = some ⟨oc_slit_of, od_slit_of, .func (PySem.W.fnOf "slit_of" "slit_of" (defArgs s_slit_of) (defBody s_slit_of) (defScope s_slit_of) .none kV_slit_of dc_slit_of pm_slit_of an_slit_of cd_slit_of ct_slit_of), sl_slit_of⟩)
    (c_slit_of : PySem.W.codeIn K cd_slit_of "slit_of" = true)
    (k_slit_of : PySem.W.keepIn K (.ref f_slit_of) = true)
    (a_is_word_row : PySem.W.nsIn K mainGlobals "is_word_row" = some (some (.ref f_is_word_row)))
    (l_is_word_row : K.lookup f_is_word_row = some ⟨oc_is_word_row, od_is_word_row, .func (PySem.W.fnOf "is_word_row" "is_word_row" (defArgs s_is_word_row) (defBody s_is_word_row) (defScope s_is_word_row) .none kV_is_word_row dc_is_word_row pm_is_word_row an_is_word_row cd_is_word_row ct_is_word_row), sl_is_word_row⟩)
    (c_is_word_row : PySem.W.codeIn K cd_is_word_row "is_word_row" = true)
    (k_is_word_row : PySem.W.keepIn K (.ref f_is_word_row) = true)
    (a_word_row_fault : PySem.W.nsIn K mainGlobals "word_row_fault" = some (some (.ref f_word_row_fault)))
    (l_word_row_fault : K.lookup f_word_row_fault = some ⟨oc_word_row_fault, od_word_row_fault, .func (PySem.W.fnOf "word_row_fault" "word_row_fault" (defArgs s_word_row_fault) (defBody s_word_row_fault) (defScope s_word_row_fault) .none kV_word_row_fault dc_word_row_fault pm_word_row_fault an_word_row_fault cd_word_row_fault ct_word_row_fault), sl_word_row_fault⟩)
    (c_word_row_fault : PySem.W.codeIn K cd_word_row_fault "word_row_fault" = true)
    (k_word_row_fault : PySem.W.keepIn K (.ref f_word_row_fault) = true)
    (a_slit_row_fault : PySem.W.nsIn K mainGlobals "slit_row_fault" = some (some (.ref f_slit_row_fault)))
    (l_slit_row_fault : K.lookup f_slit_row_fault = some ⟨oc_slit_row_fault, od_slit_row_fault, .func (PySem.W.fnOf "slit_row_fault" "slit_row_fault" (defArgs s_slit_row_fault) (defBody s_slit_row_fault) (defScope s_slit_row_fault) .none kV_slit_row_fault dc_slit_row_fault pm_slit_row_fault an_slit_row_fault cd_slit_row_fault ct_slit_row_fault), sl_slit_row_fault⟩)
    (c_slit_row_fault : PySem.W.codeIn K cd_slit_row_fault "slit_row_fault" = true)
    (k_slit_row_fault : PySem.W.keepIn K (.ref f_slit_row_fault) = true)
    (a_parse_card : PySem.W.nsIn K mainGlobals "parse_card" = some (some (.ref f_parse_card)))
    (l_parse_card : K.lookup f_parse_card = some ⟨oc_parse_card, od_parse_card, .func (PySem.W.fnOf "parse_card" "parse_card" (defArgs s_parse_card) (defBody s_parse_card) (defScope s_parse_card) .none kV_parse_card dc_parse_card pm_parse_card an_parse_card cd_parse_card ct_parse_card), sl_parse_card⟩)
    (c_parse_card : PySem.W.codeIn K cd_parse_card "parse_card" = true)
    (k_parse_card : PySem.W.keepIn K (.ref f_parse_card) = true)
    (a_l_mix : PySem.W.nsIn K mainGlobals "_law_mix" = some (some (.ref f_l_mix)))
    (l_l_mix : K.lookup f_l_mix = some ⟨oc_l_mix, od_l_mix, .func (PySem.W.fnOf "_law_mix" "_law_mix" (defArgs s_l_mix) (defBody s_l_mix) (defScope s_l_mix) .none kV_l_mix dc_l_mix pm_l_mix an_l_mix cd_l_mix ct_l_mix), sl_l_mix⟩)
    (c_l_mix : PySem.W.codeIn K cd_l_mix "_law_mix" = true)
    (k_l_mix : PySem.W.keepIn K (.ref f_l_mix) = true)
    (a_l_hand : PySem.W.nsIn K mainGlobals "_law_hand" = some (some (.ref f_l_hand)))
    (l_l_hand : K.lookup f_l_hand = some ⟨oc_l_hand, od_l_hand, .func (PySem.W.fnOf "_law_hand" "_law_hand" (defArgs s_l_hand) (defBody s_l_hand) (defScope s_l_hand) .none kV_l_hand dc_l_hand pm_l_hand an_l_hand cd_l_hand ct_l_hand), sl_l_hand⟩)
    (c_l_hand : PySem.W.codeIn K cd_l_hand "_law_hand" = true)
    (k_l_hand : PySem.W.keepIn K (.ref f_l_hand) = true)
    (a_l_draw : PySem.W.nsIn K mainGlobals "_law_draw" = some (some (.ref f_l_draw)))
    (l_l_draw : K.lookup f_l_draw = some ⟨oc_l_draw, od_l_draw, .func (PySem.W.fnOf "_law_draw" "_law_draw" (defArgs s_l_draw) (defBody s_l_draw) (defScope s_l_draw) .none kV_l_draw dc_l_draw pm_l_draw an_l_draw cd_l_draw ct_l_draw), sl_l_draw⟩)
    (c_l_draw : PySem.W.codeIn K cd_l_draw "_law_draw" = true)
    (k_l_draw : PySem.W.keepIn K (.ref f_l_draw) = true)
    (a_l_word : PySem.W.nsIn K mainGlobals "_law_word" = some (some (.ref f_l_word)))
    (l_l_word : K.lookup f_l_word = some ⟨oc_l_word, od_l_word, .func (PySem.W.fnOf "_law_word" "_law_word" (defArgs s_l_word) (defBody s_l_word) (defScope s_l_word) .none kV_l_word dc_l_word pm_l_word an_l_word cd_l_word ct_l_word), sl_l_word⟩)
    (c_l_word : PySem.W.codeIn K cd_l_word "_law_word" = true)
    (k_l_word : PySem.W.keepIn K (.ref f_l_word) = true)
    (a_l_near : PySem.W.nsIn K mainGlobals "_law_near" = some (some (.ref f_l_near)))
    (l_l_near : K.lookup f_l_near = some ⟨oc_l_near, od_l_near, .func (PySem.W.fnOf "_law_near" "_law_near" (defArgs s_l_near) (defBody s_l_near) (defScope s_l_near) .none kV_l_near dc_l_near pm_l_near an_l_near cd_l_near ct_l_near), sl_l_near⟩)
    (c_l_near : PySem.W.codeIn K cd_l_near "_law_near" = true)
    (k_l_near : PySem.W.keepIn K (.ref f_l_near) = true)
    (a_l_words : PySem.W.nsIn K mainGlobals "_law_words" = some (some (.ref f_l_words)))
    (l_l_words : K.lookup f_l_words = some ⟨oc_l_words, od_l_words, .func (PySem.W.fnOf "_law_words" "_law_words" (defArgs s_l_words) (defBody s_l_words) (defScope s_l_words) .none kV_l_words dc_l_words pm_l_words an_l_words cd_l_words ct_l_words), sl_l_words⟩)
    (c_l_words : PySem.W.codeIn K cd_l_words "_law_words" = true)
    (k_l_words : PySem.W.keepIn K (.ref f_l_words) = true)
    (a_l_marks : PySem.W.nsIn K mainGlobals "_law_marks" = some (some (.ref f_l_marks)))
    (l_l_marks : K.lookup f_l_marks = some ⟨oc_l_marks, od_l_marks, .func (PySem.W.fnOf "_law_marks" "_law_marks" (defArgs s_l_marks) (defBody s_l_marks) (defScope s_l_marks) .none kV_l_marks dc_l_marks pm_l_marks an_l_marks cd_l_marks ct_l_marks), sl_l_marks⟩)
    (c_l_marks : PySem.W.codeIn K cd_l_marks "_law_marks" = true)
    (k_l_marks : PySem.W.keepIn K (.ref f_l_marks) = true)
    (a_l_text : PySem.W.nsIn K mainGlobals "_law_text" = some (some (.ref f_l_text)))
    (l_l_text : K.lookup f_l_text = some ⟨oc_l_text, od_l_text, .func (PySem.W.fnOf "_law_text" "_law_text" (defArgs s_l_text) (defBody s_l_text) (defScope s_l_text) .none kV_l_text dc_l_text pm_l_text an_l_text cd_l_text ct_l_text), sl_l_text⟩)
    (c_l_text : PySem.W.codeIn K cd_l_text "_law_text" = true)
    (k_l_text : PySem.W.keepIn K (.ref f_l_text) = true)
    (a_law : PySem.W.nsIn K mainGlobals "law" = some (some (.ref f_law)))
    (l_law : K.lookup f_law = some ⟨oc_law, od_law, .func (PySem.W.fnOf "law" "law" (defArgs s_law) (defBody s_law) (defScope s_law) .none kV_law dc_law pm_law an_law cd_law ct_law), sl_law⟩)
    (c_law : PySem.W.codeIn K cd_law "law" = true)
    (k_law : PySem.W.keepIn K (.ref f_law) = true)
    (a_NoColumn___init__ : PySem.W.findIn K (.ref C_NoColumn) "__init__" = some (some (.ref f_NoColumn___init__)))
    (l_NoColumn___init__ : K.lookup f_NoColumn___init__ = some ⟨oc_NoColumn___init__, od_NoColumn___init__, .func (PySem.W.fnOf "__init__" "NoColumn.__init__" (defArgs s_NoColumn___init__) (defBody s_NoColumn___init__) (defScope s_NoColumn___init__) .none kV_NoColumn___init__ dc_NoColumn___init__ pm_NoColumn___init__ an_NoColumn___init__ cd_NoColumn___init__ ct_NoColumn___init__), sl_NoColumn___init__⟩)
    (c_NoColumn___init__ : PySem.W.codeIn K cd_NoColumn___init__ "NoColumn.__init__" = true)
    (k_NoColumn___init__ : PySem.W.keepIn K (.ref f_NoColumn___init__) = true)
    (fn_NoColumn___init__ : PySem.W.isFn K (.ref f_NoColumn___init__) = true)
    (a_BadColumn___init__ : PySem.W.findIn K (.ref C_BadColumn) "__init__" = some (some (.ref f_BadColumn___init__)))
    (l_BadColumn___init__ : K.lookup f_BadColumn___init__ = some ⟨oc_BadColumn___init__, od_BadColumn___init__, .func (PySem.W.fnOf "__init__" "BadColumn.__init__" (defArgs s_BadColumn___init__) (defBody s_BadColumn___init__) (defScope s_BadColumn___init__) .none kV_BadColumn___init__ dc_BadColumn___init__ pm_BadColumn___init__ an_BadColumn___init__ cd_BadColumn___init__ ct_BadColumn___init__), sl_BadColumn___init__⟩)
    (c_BadColumn___init__ : PySem.W.codeIn K cd_BadColumn___init__ "BadColumn.__init__" = true)
    (k_BadColumn___init__ : PySem.W.keepIn K (.ref f_BadColumn___init__) = true)
    (fn_BadColumn___init__ : PySem.W.isFn K (.ref f_BadColumn___init__) = true)
    (a_BadBoundary___init__ : PySem.W.findIn K (.ref C_BadBoundary) "__init__" = some (some (.ref f_BadBoundary___init__)))
    (l_BadBoundary___init__ : K.lookup f_BadBoundary___init__ = some ⟨oc_BadBoundary___init__, od_BadBoundary___init__, .func (PySem.W.fnOf "__init__" "BadBoundary.__init__" (defArgs s_BadBoundary___init__) (defBody s_BadBoundary___init__) (defScope s_BadBoundary___init__) .none kV_BadBoundary___init__ dc_BadBoundary___init__ pm_BadBoundary___init__ an_BadBoundary___init__ cd_BadBoundary___init__ ct_BadBoundary___init__), sl_BadBoundary___init__⟩)
    (c_BadBoundary___init__ : PySem.W.codeIn K cd_BadBoundary___init__ "BadBoundary.__init__" = true)
    (k_BadBoundary___init__ : PySem.W.keepIn K (.ref f_BadBoundary___init__) = true)
    (fn_BadBoundary___init__ : PySem.W.isFn K (.ref f_BadBoundary___init__) = true)
    (a_BadText___init__ : PySem.W.findIn K (.ref C_BadText) "__init__" = some (some (.ref f_BadText___init__)))
    (l_BadText___init__ : K.lookup f_BadText___init__ = some ⟨oc_BadText___init__, od_BadText___init__, .func (PySem.W.fnOf "__init__" "BadText.__init__" (defArgs s_BadText___init__) (defBody s_BadText___init__) (defScope s_BadText___init__) .none kV_BadText___init__ dc_BadText___init__ pm_BadText___init__ an_BadText___init__ cd_BadText___init__ ct_BadText___init__), sl_BadText___init__⟩)
    (c_BadText___init__ : PySem.W.codeIn K cd_BadText___init__ "BadText.__init__" = true)
    (k_BadText___init__ : PySem.W.keepIn K (.ref f_BadText___init__) = true)
    (fn_BadText___init__ : PySem.W.isFn K (.ref f_BadText___init__) = true)
    (a_BadCard___init__ : PySem.W.findIn K (.ref C_BadCard) "__init__" = some (some (.ref f_BadCard___init__)))
    (l_BadCard___init__ : K.lookup f_BadCard___init__ = some ⟨oc_BadCard___init__, od_BadCard___init__, .func (PySem.W.fnOf "__init__" "BadCard.__init__" (defArgs s_BadCard___init__) (defBody s_BadCard___init__) (defScope s_BadCard___init__) .none kV_BadCard___init__ dc_BadCard___init__ pm_BadCard___init__ an_BadCard___init__ cd_BadCard___init__ ct_BadCard___init__), sl_BadCard___init__⟩)
    (c_BadCard___init__ : PySem.W.codeIn K cd_BadCard___init__ "BadCard.__init__" = true)
    (k_BadCard___init__ : PySem.W.keepIn K (.ref f_BadCard___init__) = true)
    (fn_BadCard___init__ : PySem.W.isFn K (.ref f_BadCard___init__) = true)
    (a_Column___init__ : PySem.W.findIn K (.ref C_Column) "__init__" = some (some (.ref f_Column___init__)))
    (l_Column___init__ : K.lookup f_Column___init__ = some ⟨oc_Column___init__, od_Column___init__, .func (PySem.W.fnOf "__init__" "Column.__init__" (defArgs s_Column___init__) (defBody s_Column___init__) (defScope s_Column___init__) .none kV_Column___init__ dc_Column___init__ pm_Column___init__ an_Column___init__ cd_Column___init__ ct_Column___init__), sl_Column___init__⟩)
    (c_Column___init__ : PySem.W.codeIn K cd_Column___init__ "Column.__init__" = true)
    (k_Column___init__ : PySem.W.keepIn K (.ref f_Column___init__) = true)
    (fn_Column___init__ : PySem.W.isFn K (.ref f_Column___init__) = true)
    (a_Column_many : PySem.W.findIn K (.ref C_Column) "many" = some (some (.ref f_Column_many)))
    (l_Column_many : K.lookup f_Column_many = some ⟨oc_Column_many, od_Column_many, .func (PySem.W.fnOf "many" "Column.many" (defArgs s_Column_many) (defBody s_Column_many) (defScope s_Column_many) .none kV_Column_many dc_Column_many pm_Column_many an_Column_many cd_Column_many ct_Column_many), sl_Column_many⟩)
    (c_Column_many : PySem.W.codeIn K cd_Column_many "Column.many" = true)
    (k_Column_many : PySem.W.keepIn K (.ref f_Column_many) = true)
    (fn_Column_many : PySem.W.isFn K (.ref f_Column_many) = true)
    (a_Column_heights : PySem.W.findIn K (.ref C_Column) "heights" = some (some (.ref p_Column_heights)))
    (r_Column_heights : PySem.W.recIn K p_Column_heights "property" = some (.ref f_Column_heights :: re_Column_heights))
    (pg_Column_heights : PySem.W.specialIn K (.ref p_Column_heights) "__get__" = some (some (.builtin "property.__get__")))
    (pt_Column_heights : PySem.W.takesIn K (.ref p_Column_heights) = some true)
    (l_Column_heights : K.lookup f_Column_heights = some ⟨oc_Column_heights, od_Column_heights, .func (PySem.W.fnOf "heights" "Column.heights" (defArgs s_Column_heights) (defBody s_Column_heights) (defScope s_Column_heights) .none kV_Column_heights dc_Column_heights pm_Column_heights an_Column_heights cd_Column_heights ct_Column_heights), sl_Column_heights⟩)
    (c_Column_heights : PySem.W.codeIn K cd_Column_heights "Column.heights" = true)
    (k_Column_heights : PySem.W.keepIn K (.ref f_Column_heights) = true)
    (a_Column___eq__ : PySem.W.findIn K (.ref C_Column) "__eq__" = some (some (.ref f_Column___eq__)))
    (l_Column___eq__ : K.lookup f_Column___eq__ = some ⟨oc_Column___eq__, od_Column___eq__, .func (PySem.W.fnOf "__eq__" "Column.__eq__" (defArgs s_Column___eq__) (defBody s_Column___eq__) (defScope s_Column___eq__) .none kV_Column___eq__ dc_Column___eq__ pm_Column___eq__ an_Column___eq__ cd_Column___eq__ ct_Column___eq__), sl_Column___eq__⟩)
    (c_Column___eq__ : PySem.W.codeIn K cd_Column___eq__ "Column.__eq__" = true)
    (k_Column___eq__ : PySem.W.keepIn K (.ref f_Column___eq__) = true)
    (fn_Column___eq__ : PySem.W.isFn K (.ref f_Column___eq__) = true)
    (a_Column___str__ : PySem.W.findIn K (.ref C_Column) "__str__" = some (some (.ref f_Column___str__)))
    (l_Column___str__ : K.lookup f_Column___str__ = some ⟨oc_Column___str__, od_Column___str__, .func (PySem.W.fnOf "__str__" "Column.__str__" (defArgs s_Column___str__) (defBody s_Column___str__) (defScope s_Column___str__) .none kV_Column___str__ dc_Column___str__ pm_Column___str__ an_Column___str__ cd_Column___str__ ct_Column___str__), sl_Column___str__⟩)
    (c_Column___str__ : PySem.W.codeIn K cd_Column___str__ "Column.__str__" = true)
    (k_Column___str__ : PySem.W.keepIn K (.ref f_Column___str__) = true)
    (fn_Column___str__ : PySem.W.isFn K (.ref f_Column___str__) = true)
    (a_Column___len__ : PySem.W.findIn K (.ref C_Column) "__len__" = some (some (.ref f_Column___len__)))
    (l_Column___len__ : K.lookup f_Column___len__ = some ⟨oc_Column___len__, od_Column___len__, .func (PySem.W.fnOf "__len__" "Column.__len__" (defArgs s_Column___len__) (defBody s_Column___len__) (defScope s_Column___len__) .none kV_Column___len__ dc_Column___len__ pm_Column___len__ an_Column___len__ cd_Column___len__ ct_Column___len__), sl_Column___len__⟩)
    (c_Column___len__ : PySem.W.codeIn K cd_Column___len__ "Column.__len__" = true)
    (k_Column___len__ : PySem.W.keepIn K (.ref f_Column___len__) = true)
    (fn_Column___len__ : PySem.W.isFn K (.ref f_Column___len__) = true)
    (a_Column___iter__ : PySem.W.findIn K (.ref C_Column) "__iter__" = some (some (.ref f_Column___iter__)))
    (l_Column___iter__ : K.lookup f_Column___iter__ = some ⟨oc_Column___iter__, od_Column___iter__, .func (PySem.W.fnOf "__iter__" "Column.__iter__" (defArgs s_Column___iter__) (defBody s_Column___iter__) (defScope s_Column___iter__) .none kV_Column___iter__ dc_Column___iter__ pm_Column___iter__ an_Column___iter__ cd_Column___iter__ ct_Column___iter__), sl_Column___iter__⟩)
    (c_Column___iter__ : PySem.W.codeIn K cd_Column___iter__ "Column.__iter__" = true)
    (k_Column___iter__ : PySem.W.keepIn K (.ref f_Column___iter__) = true)
    (fn_Column___iter__ : PySem.W.isFn K (.ref f_Column___iter__) = true)
    (a_Card___init__ : PySem.W.findIn K (.ref C_Card) "__init__" = some (some (.ref f_Card___init__)))
    (l_Card___init__ : K.lookup f_Card___init__ = some ⟨oc_Card___init__, od_Card___init__, .func (PySem.W.fnOf "__init__" "Card.__init__" (defArgs s_Card___init__) (defBody s_Card___init__) (defScope s_Card___init__) (.ref dt_Card___init__) kV_Card___init__ dc_Card___init__ pm_Card___init__ an_Card___init__ cd_Card___init__ ct_Card___init__), sl_Card___init__⟩)
    (lt_Card___init__ : K.lookup dt_Card___init__ = some ⟨dc0_Card___init__, do_Card___init__, .seq #[dv0_Card___init__] dn_Card___init__, ds_Card___init__⟩)
    (c_Card___init__ : PySem.W.codeIn K cd_Card___init__ "Card.__init__" = true)
    (k_Card___init__ : PySem.W.keepIn K (.ref f_Card___init__) = true)
    (fn_Card___init__ : PySem.W.isFn K (.ref f_Card___init__) = true)
    (a0_Card_of_words : PySem.W.findIn K (.type "type") "of_words" = some none)
    (a_Card_of_words : PySem.W.findIn K (.ref C_Card) "of_words" = some (some (.ref p_Card_of_words)))
    (r_Card_of_words : PySem.W.recIn K p_Card_of_words "classmethod" = some (.ref f_Card_of_words :: re_Card_of_words))
    (pg_Card_of_words : PySem.W.specialIn K (.ref p_Card_of_words) "__get__" = some (some (.builtin "classmethod.__get__")))
    (pt_Card_of_words : PySem.W.typeIn K (.ref p_Card_of_words) = some (.type "classmethod"))
    (fi_Card_of_words : PySem.W.fnIn K f_Card_of_words = true)
    (l_Card_of_words : K.lookup f_Card_of_words = some ⟨oc_Card_of_words, od_Card_of_words, .func (PySem.W.fnOf "of_words" "Card.of_words" (defArgs s_Card_of_words) (defBody s_Card_of_words) (defScope s_Card_of_words) .none (.ref kd_Card_of_words) dc_Card_of_words pm_Card_of_words an_Card_of_words cd_Card_of_words ct_Card_of_words), sl_Card_of_words⟩)
    (kw_Card_of_words : PySem.W.nsIn K kd_Card_of_words "marks" = some (some (.ref te_Card_of_words)))
    (lt_Card_of_words : K.lookup te_Card_of_words = some ⟨.type "tuple", eoc_Card_of_words, .seq #[] en_Card_of_words, eos_Card_of_words⟩)
    (c_Card_of_words : PySem.W.codeIn K cd_Card_of_words "Card.of_words" = true)
    (k_Card_of_words : PySem.W.keepIn K (.ref f_Card_of_words) = true)
    (a_Card_common : PySem.W.findIn K (.ref C_Card) "common" = some (some (.ref f_Card_common)))
    (l_Card_common : K.lookup f_Card_common = some ⟨oc_Card_common, od_Card_common, .func (PySem.W.fnOf "common" "Card.common" (defArgs s_Card_common) (defBody s_Card_common) (defScope s_Card_common) .none kV_Card_common dc_Card_common pm_Card_common an_Card_common cd_Card_common ct_Card_common), sl_Card_common⟩)
    (c_Card_common : PySem.W.codeIn K cd_Card_common "Card.common" = true)
    (k_Card_common : PySem.W.keepIn K (.ref f_Card_common) = true)
    (fn_Card_common : PySem.W.isFn K (.ref f_Card_common) = true)
    (a_Card___eq__ : PySem.W.findIn K (.ref C_Card) "__eq__" = some (some (.ref f_Card___eq__)))
    (l_Card___eq__ : K.lookup f_Card___eq__ = some ⟨oc_Card___eq__, od_Card___eq__, .func (PySem.W.fnOf "__eq__" "Card.__eq__" (defArgs s_Card___eq__) (defBody s_Card___eq__) (defScope s_Card___eq__) .none kV_Card___eq__ dc_Card___eq__ pm_Card___eq__ an_Card___eq__ cd_Card___eq__ ct_Card___eq__), sl_Card___eq__⟩)
    (c_Card___eq__ : PySem.W.codeIn K cd_Card___eq__ "Card.__eq__" = true)
    (k_Card___eq__ : PySem.W.keepIn K (.ref f_Card___eq__) = true)
    (fn_Card___eq__ : PySem.W.isFn K (.ref f_Card___eq__) = true)
    (a_Card___len__ : PySem.W.findIn K (.ref C_Card) "__len__" = some (some (.ref f_Card___len__)))
    (l_Card___len__ : K.lookup f_Card___len__ = some ⟨oc_Card___len__, od_Card___len__, .func (PySem.W.fnOf "__len__" "Card.__len__" (defArgs s_Card___len__) (defBody s_Card___len__) (defScope s_Card___len__) .none kV_Card___len__ dc_Card___len__ pm_Card___len__ an_Card___len__ cd_Card___len__ ct_Card___len__), sl_Card___len__⟩)
    (c_Card___len__ : PySem.W.codeIn K cd_Card___len__ "Card.__len__" = true)
    (k_Card___len__ : PySem.W.keepIn K (.ref f_Card___len__) = true)
    (fn_Card___len__ : PySem.W.isFn K (.ref f_Card___len__) = true)
    (a_Card___iter__ : PySem.W.findIn K (.ref C_Card) "__iter__" = some (some (.ref f_Card___iter__)))
    (l_Card___iter__ : K.lookup f_Card___iter__ = some ⟨oc_Card___iter__, od_Card___iter__, .func (PySem.W.fnOf "__iter__" "Card.__iter__" (defArgs s_Card___iter__) (defBody s_Card___iter__) (defScope s_Card___iter__) .none kV_Card___iter__ dc_Card___iter__ pm_Card___iter__ an_Card___iter__ cd_Card___iter__ ct_Card___iter__), sl_Card___iter__⟩)
    (c_Card___iter__ : PySem.W.codeIn K cd_Card___iter__ "Card.__iter__" = true)
    (k_Card___iter__ : PySem.W.keepIn K (.ref f_Card___iter__) = true)
    (fn_Card___iter__ : PySem.W.isFn K (.ref f_Card___iter__) = true)
    (ec_CardError : PySem.W.subIn K (.ref C_CardError) (.type "BaseException") = some true)
    (ty_CardError : PySem.W.typeIn K (.ref C_CardError) = some (.type "type"))
    (ic_CardError : PySem.W.isClsIn K C_CardError = true)
    (ss_CardError : PySem.W.subIn K (.ref C_CardError) (.ref C_CardError) = some true)
    (xl_NoColumn : K.lookup C_NoColumn = some (excClassObj nm_NoColumn q_NoColumn C_NoColumn N_NoColumn bs_NoColumn bm_NoColumn true sn_NoColumn sb_NoColumn ab_NoColumn co_NoColumn dd_NoColumn m0_NoColumn m1_NoColumn m2_NoColumn m3_NoColumn m5_NoColumn "ValueError.__new__"))
    (rv_NoColumn : PySem.HandSPX.refsVE bm_NoColumn = true)
    (sa_NoColumn : PySem.W.findIn K (.ref C_NoColumn) "__setattr__" = some (some (.builtin "object.__setattr__")))
    (ga_NoColumn : PySem.W.findIn K (.ref C_NoColumn) "__getattribute__" = some (some (.builtin "BaseException.__getattribute__")))
    (gg_NoColumn : PySem.W.findIn K (.ref C_NoColumn) "__getattr__" = some none)
    (kc_NoColumn : PySem.W.keepIn K (.ref C_NoColumn) = true)
    (hd_NoColumn : PySem.W.hasDictIn K C_NoColumn = true)
    (ti_NoColumn : PySem.W.typeIn K (.ref f_NoColumn___init__) = some (.type "function"))
    (ec_NoColumn : PySem.W.subIn K (.ref C_NoColumn) (.type "BaseException") = some true)
    (ty_NoColumn : PySem.W.typeIn K (.ref C_NoColumn) = some (.type "type"))
    (ic_NoColumn : PySem.W.isClsIn K C_NoColumn = true)
    (ss_NoColumn : PySem.W.subIn K (.ref C_NoColumn) (.ref C_NoColumn) = some true)
    (n_NoColumn_column : PySem.W.findIn K (.ref C_NoColumn) "column" = some none)
    (up_NoColumn_CardError : PySem.W.subIn K (.ref C_NoColumn) (.ref C_CardError) = some true)
    (xl_BadColumn : K.lookup C_BadColumn = some (excClassObj nm_BadColumn q_BadColumn C_BadColumn N_BadColumn bs_BadColumn bm_BadColumn true sn_BadColumn sb_BadColumn ab_BadColumn co_BadColumn dd_BadColumn m0_BadColumn m1_BadColumn m2_BadColumn m3_BadColumn m5_BadColumn "ValueError.__new__"))
    (rv_BadColumn : PySem.HandSPX.refsVE bm_BadColumn = true)
    (sa_BadColumn : PySem.W.findIn K (.ref C_BadColumn) "__setattr__" = some (some (.builtin "object.__setattr__")))
    (ga_BadColumn : PySem.W.findIn K (.ref C_BadColumn) "__getattribute__" = some (some (.builtin "BaseException.__getattribute__")))
    (gg_BadColumn : PySem.W.findIn K (.ref C_BadColumn) "__getattr__" = some none)
    (kc_BadColumn : PySem.W.keepIn K (.ref C_BadColumn) = true)
    (hd_BadColumn : PySem.W.hasDictIn K C_BadColumn = true)
    (ti_BadColumn : PySem.W.typeIn K (.ref f_BadColumn___init__) = some (.type "function"))
    (ec_BadColumn : PySem.W.subIn K (.ref C_BadColumn) (.type "BaseException") = some true)
    (ty_BadColumn : PySem.W.typeIn K (.ref C_BadColumn) = some (.type "type"))
    (ic_BadColumn : PySem.W.isClsIn K C_BadColumn = true)
    (ss_BadColumn : PySem.W.subIn K (.ref C_BadColumn) (.ref C_BadColumn) = some true)
    (n_BadColumn_what : PySem.W.findIn K (.ref C_BadColumn) "what" = some none)
    (up_BadColumn_CardError : PySem.W.subIn K (.ref C_BadColumn) (.ref C_CardError) = some true)
    (xl_BadBoundary : K.lookup C_BadBoundary = some (excClassObj nm_BadBoundary q_BadBoundary C_BadBoundary N_BadBoundary bs_BadBoundary bm_BadBoundary true sn_BadBoundary sb_BadBoundary ab_BadBoundary co_BadBoundary dd_BadBoundary m0_BadBoundary m1_BadBoundary m2_BadBoundary m3_BadBoundary m5_BadBoundary "ValueError.__new__"))
    (rv_BadBoundary : PySem.HandSPX.refsVE bm_BadBoundary = true)
    (sa_BadBoundary : PySem.W.findIn K (.ref C_BadBoundary) "__setattr__" = some (some (.builtin "object.__setattr__")))
    (ga_BadBoundary : PySem.W.findIn K (.ref C_BadBoundary) "__getattribute__" = some (some (.builtin "BaseException.__getattribute__")))
    (gg_BadBoundary : PySem.W.findIn K (.ref C_BadBoundary) "__getattr__" = some none)
    (kc_BadBoundary : PySem.W.keepIn K (.ref C_BadBoundary) = true)
    (hd_BadBoundary : PySem.W.hasDictIn K C_BadBoundary = true)
    (ti_BadBoundary : PySem.W.typeIn K (.ref f_BadBoundary___init__) = some (.type "function"))
    (ec_BadBoundary : PySem.W.subIn K (.ref C_BadBoundary) (.type "BaseException") = some true)
    (ty_BadBoundary : PySem.W.typeIn K (.ref C_BadBoundary) = some (.type "type"))
    (ic_BadBoundary : PySem.W.isClsIn K C_BadBoundary = true)
    (ss_BadBoundary : PySem.W.subIn K (.ref C_BadBoundary) (.ref C_BadBoundary) = some true)
    (n_BadBoundary_boundary : PySem.W.findIn K (.ref C_BadBoundary) "boundary" = some none)
    (up_BadBoundary_CardError : PySem.W.subIn K (.ref C_BadBoundary) (.ref C_CardError) = some true)
    (xl_BadText : K.lookup C_BadText = some (excClassObj nm_BadText q_BadText C_BadText N_BadText bs_BadText bm_BadText true sn_BadText sb_BadText ab_BadText co_BadText dd_BadText m0_BadText m1_BadText m2_BadText m3_BadText m5_BadText "ValueError.__new__"))
    (rv_BadText : PySem.HandSPX.refsVE bm_BadText = true)
    (sa_BadText : PySem.W.findIn K (.ref C_BadText) "__setattr__" = some (some (.builtin "object.__setattr__")))
    (ga_BadText : PySem.W.findIn K (.ref C_BadText) "__getattribute__" = some (some (.builtin "BaseException.__getattribute__")))
    (gg_BadText : PySem.W.findIn K (.ref C_BadText) "__getattr__" = some none)
    (kc_BadText : PySem.W.keepIn K (.ref C_BadText) = true)
    (hd_BadText : PySem.W.hasDictIn K C_BadText = true)
    (ti_BadText : PySem.W.typeIn K (.ref f_BadText___init__) = some (.type "function"))
    (ec_BadText : PySem.W.subIn K (.ref C_BadText) (.type "BaseException") = some true)
    (ty_BadText : PySem.W.typeIn K (.ref C_BadText) = some (.type "type"))
    (ic_BadText : PySem.W.isClsIn K C_BadText = true)
    (ss_BadText : PySem.W.subIn K (.ref C_BadText) (.ref C_BadText) = some true)
    (n_BadText_row : PySem.W.findIn K (.ref C_BadText) "row" = some none)
    (n_BadText_what : PySem.W.findIn K (.ref C_BadText) "what" = some none)
    (up_BadText_CardError : PySem.W.subIn K (.ref C_BadText) (.ref C_CardError) = some true)
    (xl_BadCard : K.lookup C_BadCard = some (excClassObj nm_BadCard q_BadCard C_BadCard N_BadCard bs_BadCard bm_BadCard true sn_BadCard sb_BadCard ab_BadCard co_BadCard dd_BadCard m0_BadCard m1_BadCard m2_BadCard m3_BadCard m5_BadCard "ValueError.__new__"))
    (rv_BadCard : PySem.HandSPX.refsVE bm_BadCard = true)
    (sa_BadCard : PySem.W.findIn K (.ref C_BadCard) "__setattr__" = some (some (.builtin "object.__setattr__")))
    (ga_BadCard : PySem.W.findIn K (.ref C_BadCard) "__getattribute__" = some (some (.builtin "BaseException.__getattribute__")))
    (gg_BadCard : PySem.W.findIn K (.ref C_BadCard) "__getattr__" = some none)
    (kc_BadCard : PySem.W.keepIn K (.ref C_BadCard) = true)
    (hd_BadCard : PySem.W.hasDictIn K C_BadCard = true)
    (ti_BadCard : PySem.W.typeIn K (.ref f_BadCard___init__) = some (.type "function"))
    (ec_BadCard : PySem.W.subIn K (.ref C_BadCard) (.type "BaseException") = some true)
    (ty_BadCard : PySem.W.typeIn K (.ref C_BadCard) = some (.type "type"))
    (ic_BadCard : PySem.W.isClsIn K C_BadCard = true)
    (ss_BadCard : PySem.W.subIn K (.ref C_BadCard) (.ref C_BadCard) = some true)
    (n_BadCard_index : PySem.W.findIn K (.ref C_BadCard) "index" = some none)
    (n_BadCard_what : PySem.W.findIn K (.ref C_BadCard) "what" = some none)
    (up_BadCard_CardError : PySem.W.subIn K (.ref C_BadCard) (.ref C_CardError) = some true)
    (pg_Column : PySem.W.plainGet K C_Column Str.empty = true)
    (hd_Column : PySem.W.hasDictIn K C_Column = true)
    (po_Column : PySem.W.plainOver K C_Column = true)
    (sa_Column : PySem.W.findIn K (.ref C_Column) "__setattr__" = some (some (.builtin "object.__setattr__")))
    (i1_Column : PySem.W.findIn K (.ref C_Column) "__class__" = some (some (.builtin "object.__class__")))
    (i4_Column : PySem.W.mroIn K C_Column (.type "object") = some true)
    (ic_Column : PySem.W.isClsIn K C_Column = true)
    (ty_Column : PySem.W.typeIn K (.ref C_Column) = some (.type "type"))
    (it_str_Column : PySem.W.subIn K (.type "str") (.ref C_Column) = some false)
    (it_int_Column : PySem.W.subIn K (.type "int") (.ref C_Column) = some false)
    (it_bool_Column : PySem.W.subIn K (.type "bool") (.ref C_Column) = some false)
    (it_NoneType_Column : PySem.W.subIn K (.type "NoneType") (.ref C_Column) = some false)
    (it_list_Column : PySem.W.subIn K (.type "list") (.ref C_Column) = some false)
    (it_tuple_Column : PySem.W.subIn K (.type "tuple") (.ref C_Column) = some false)
    (it_dict_Column : PySem.W.subIn K (.type "dict") (.ref C_Column) = some false)
    (ti_str_Column : PySem.W.subIn K (.ref C_Column) (.type "str") = some false)
    (ti_int_Column : PySem.W.subIn K (.ref C_Column) (.type "int") = some false)
    (ti_bool_Column : PySem.W.subIn K (.ref C_Column) (.type "bool") = some false)
    (ti_list_Column : PySem.W.subIn K (.ref C_Column) (.type "list") = some false)
    (ti_tuple_Column : PySem.W.subIn K (.ref C_Column) (.type "tuple") = some false)
    (sub_Column : PySem.W.subIn K (.type "str") (.ref C_Column) = some false)
    (ne_Column : PySem.W.findIn K (.ref C_Column) "__ne__" = some (some (.builtin "object.__ne__")))
    (mk_Column : PySem.W.makesIn K C_Column = true)
    (kc_Column : PySem.W.keepIn K (.ref C_Column) = true)
    (n_Column_word : PySem.W.findIn K (.ref C_Column) "word" = some none)
    (n_Column_size : PySem.W.findIn K (.ref C_Column) "size" = some none)
    (pg_Card : PySem.W.plainGet K C_Card Str.empty = true)
    (hd_Card : PySem.W.hasDictIn K C_Card = true)
    (po_Card : PySem.W.plainOver K C_Card = true)
    (sa_Card : PySem.W.findIn K (.ref C_Card) "__setattr__" = some (some (.builtin "object.__setattr__")))
    (i1_Card : PySem.W.findIn K (.ref C_Card) "__class__" = some (some (.builtin "object.__class__")))
    (i4_Card : PySem.W.mroIn K C_Card (.type "object") = some true)
    (ic_Card : PySem.W.isClsIn K C_Card = true)
    (ty_Card : PySem.W.typeIn K (.ref C_Card) = some (.type "type"))
    (it_str_Card : PySem.W.subIn K (.type "str") (.ref C_Card) = some false)
    (it_int_Card : PySem.W.subIn K (.type "int") (.ref C_Card) = some false)
    (it_bool_Card : PySem.W.subIn K (.type "bool") (.ref C_Card) = some false)
    (it_NoneType_Card : PySem.W.subIn K (.type "NoneType") (.ref C_Card) = some false)
    (it_list_Card : PySem.W.subIn K (.type "list") (.ref C_Card) = some false)
    (it_tuple_Card : PySem.W.subIn K (.type "tuple") (.ref C_Card) = some false)
    (it_dict_Card : PySem.W.subIn K (.type "dict") (.ref C_Card) = some false)
    (ti_str_Card : PySem.W.subIn K (.ref C_Card) (.type "str") = some false)
    (ti_int_Card : PySem.W.subIn K (.ref C_Card) (.type "int") = some false)
    (ti_bool_Card : PySem.W.subIn K (.ref C_Card) (.type "bool") = some false)
    (ti_list_Card : PySem.W.subIn K (.ref C_Card) (.type "list") = some false)
    (ti_tuple_Card : PySem.W.subIn K (.ref C_Card) (.type "tuple") = some false)
    (sub_Card : PySem.W.subIn K (.type "str") (.ref C_Card) = some false)
    (ne_Card : PySem.W.findIn K (.ref C_Card) "__ne__" = some (some (.builtin "object.__ne__")))
    (rd_Card : PySem.W.readsIn K C_Card (.type "type") = true)
    (rg_Card : PySem.W.specialIn K (.ref C_Card) "__getattribute__" = some (some (.builtin "type.__getattribute__")))
    (mk_Card : PySem.W.makesIn K C_Card = true)
    (kc_Card : PySem.W.keepIn K (.ref C_Card) = true)
    (n_Card_columns : PySem.W.findIn K (.ref C_Card) "columns" = some none)
    (n_Card_size : PySem.W.findIn K (.ref C_Card) "size" = some none)
    (n_Card_width : PySem.W.findIn K (.ref C_Card) "width" = some none)
    (n_Card_words : PySem.W.findIn K (.ref C_Card) "words" = some none)
    (n_Card_marks : PySem.W.findIn K (.ref C_Card) "marks" = some none)
    (kc_MOST_SIZE : PySem.W.nsIn K mainGlobals "MOST_SIZE" = some (some (.int 6 tk_MOST_SIZE)))
    (kc_MOST_WIDTH : PySem.W.nsIn K mainGlobals "MOST_WIDTH" = some (some (.int 12 tk_MOST_WIDTH)))
    (kc_MOST_DIGITS : PySem.W.nsIn K mainGlobals "MOST_DIGITS" = some (some (.int 3 tk_MOST_DIGITS)))
    (kc_DIGITS : PySem.W.nsIn K mainGlobals "DIGITS" = some (some (.str (sOf [48, 49, 50, 51, 52, 53, 54, 55, 56, 57]) tk_DIGITS)))
    (i2 : PySem.W.specialIn K (.builtin "object.__class__") "__get__" = some (some (.builtin "getset_descriptor.__get__")))
    (i3 : PySem.W.takesIn K (.builtin "object.__class__") = some true)
    (z_ValueError : PySem.W.nsIn K mainGlobals "ValueError" = some none)
    (z_abs : PySem.W.nsIn K mainGlobals "abs" = some none)
    (z_all : PySem.W.nsIn K mainGlobals "all" = some none)
    (z_bool : PySem.W.nsIn K mainGlobals "bool" = some none)
    (z_classmethod : PySem.W.nsIn K mainGlobals "classmethod" = some none)
    (z_enumerate : PySem.W.nsIn K mainGlobals "enumerate" = some none)
    (z_int : PySem.W.nsIn K mainGlobals "int" = some none)
    (z_isinstance : PySem.W.nsIn K mainGlobals "isinstance" = some none)
    (z_iter : PySem.W.nsIn K mainGlobals "iter" = some none)
    (z_len : PySem.W.nsIn K mainGlobals "len" = some none)
    (z_list : PySem.W.nsIn K mainGlobals "list" = some none)
    (z_property : PySem.W.nsIn K mainGlobals "property" = some none)
    (z_range : PySem.W.nsIn K mainGlobals "range" = some none)
    (z_sorted : PySem.W.nsIn K mainGlobals "sorted" = some none)
    (z_staticmethod : PySem.W.nsIn K mainGlobals "staticmethod" = some none)
    (z_str : PySem.W.nsIn K mainGlobals "str" = some none)
    (z_tuple : PySem.W.nsIn K mainGlobals "tuple" = some none)
    : ∃ fd : FuncData, (∀ (s : Shared) (u : Value), BindsTo s fd ⟨[u], []⟩ [("_law_script", u)]) ∧ ∀ base : Heap, K.In base → base.Ns mainGlobals mg → FnOk P w K mg base CX0 14 fa fd ["_law_script"] (spLaw K) := by
  have e : f_law = fa := by
    have e := hfa.symm.trans (PySem.W.mg_of X G a_law)
    cases e
    rfl
  subst e
  have F_is_number := fun_mk (st := s_is_number) l_is_number c_is_number k_is_number
  have b_is_number := F_is_number.binds (ps := P_is_number) fun _ _ _ _ _ _ us hl => match us, hl with | [_], _ => rfl
  have F_is_whole := fun_mk (st := s_is_whole) l_is_whole c_is_whole k_is_whole
  have b_is_whole := F_is_whole.binds (ps := P_is_whole) fun _ _ _ _ _ _ us hl => match us, hl with | [_, _, _], _ => rfl
  have F_is_sequence := fun_mk (st := s_is_sequence) l_is_sequence c_is_sequence k_is_sequence
  have b_is_sequence := F_is_sequence.binds (ps := P_is_sequence) fun _ _ _ _ _ _ us hl => match us, hl with | [_], _ => rfl
  have F_word_fault := fun_mk (st := s_word_fault) l_word_fault c_word_fault k_word_fault
  have b_word_fault := F_word_fault.binds (ps := P_word_fault) fun _ _ _ _ _ _ us hl => match us, hl with | [_], _ => rfl
  have F_common_steps := fun_mk (st := s_common_steps) l_common_steps c_common_steps k_common_steps
  have b_common_steps := F_common_steps.binds (ps := P_common_steps) fun _ _ _ _ _ _ us hl => match us, hl with | [_, _], _ => rfl
  have F_check_columns := fun_mk (st := s_check_columns) l_check_columns c_check_columns k_check_columns
  have b_check_columns := F_check_columns.binds (ps := P_check_columns) fun _ _ _ _ _ _ us hl => match us, hl with | [_], _ => rfl
  have F_mark_of := fun_mk (st := s_mark_of) l_mark_of c_mark_of k_mark_of
  have b_mark_of := F_mark_of.binds (ps := P_mark_of) fun _ _ _ _ _ _ us hl => match us, hl with | [_, _, _], _ => rfl
  have F_new_marks := fun_mk (st := s_new_marks) l_new_marks c_new_marks k_new_marks
  have b_new_marks := F_new_marks.binds (ps := P_new_marks) fun _ _ _ _ _ _ us hl => match us, hl with | [_, _, _, _], _ => rfl
  have F_card_text := fun_mk (st := s_card_text) l_card_text c_card_text k_card_text
  have b_card_text := F_card_text.binds (ps := P_card_text) fun _ _ _ _ _ _ us hl => match us, hl with | [_], _ => rfl
  have F_is_number_text := fun_mk (st := s_is_number_text) l_is_number_text c_is_number_text k_is_number_text
  have b_is_number_text := F_is_number_text.binds (ps := P_is_number_text) fun _ _ _ _ _ _ us hl => match us, hl with | [_], _ => rfl
  have F_slit_of := fun_mk (st := s_slit_of) l_slit_of c_slit_of k_slit_of
  have b_slit_of := F_slit_of.binds (ps := P_slit_of) fun _ _ _ _ _ _ us hl => match us, hl with | [_], _ => rfl
  have F_is_word_row := fun_mk (st := s_is_word_row) l_is_word_row c_is_word_row k_is_word_row
  have b_is_word_row := F_is_word_row.binds (ps := P_is_word_row) fun _ _ _ _ _ _ us hl => match us, hl with | [_], _ => rfl
  have F_word_row_fault := fun_mk (st := s_word_row_fault) l_word_row_fault c_word_row_fault k_word_row_fault
  have b_word_row_fault := F_word_row_fault.binds (ps := P_word_row_fault) fun _ _ _ _ _ _ us hl => match us, hl with | [_, _, _], _ => rfl
  have F_slit_row_fault := fun_mk (st := s_slit_row_fault) l_slit_row_fault c_slit_row_fault k_slit_row_fault
  have b_slit_row_fault := F_slit_row_fault.binds (ps := P_slit_row_fault) fun _ _ _ _ _ _ us hl => match us, hl with | [_, _, _], _ => rfl
  have F_parse_card := fun_mk (st := s_parse_card) l_parse_card c_parse_card k_parse_card
  have b_parse_card := F_parse_card.binds (ps := P_parse_card) fun _ _ _ _ _ _ us hl => match us, hl with | [_], _ => rfl
  have F_l_mix := fun_mk (st := s_l_mix) l_l_mix c_l_mix k_l_mix
  have b_l_mix := F_l_mix.binds (ps := P_l_mix) fun _ _ _ _ _ _ us hl => match us, hl with | [_, _], _ => rfl
  have F_l_hand := fun_mk (st := s_l_hand) l_l_hand c_l_hand k_l_hand
  have b_l_hand := F_l_hand.binds (ps := P_l_hand) fun _ _ _ _ _ _ us hl => match us, hl with | [_], _ => rfl
  have F_l_draw := fun_mk (st := s_l_draw) l_l_draw c_l_draw k_l_draw
  have b_l_draw := F_l_draw.binds (ps := P_l_draw) fun _ _ _ _ _ _ us hl => match us, hl with | [_, _], _ => rfl
  have F_l_word := fun_mk (st := s_l_word) l_l_word c_l_word k_l_word
  have b_l_word := F_l_word.binds (ps := P_l_word) fun _ _ _ _ _ _ us hl => match us, hl with | [_, _], _ => rfl
  have F_l_near := fun_mk (st := s_l_near) l_l_near c_l_near k_l_near
  have b_l_near := F_l_near.binds (ps := P_l_near) fun _ _ _ _ _ _ us hl => match us, hl with | [_, _], _ => rfl
  have F_l_words := fun_mk (st := s_l_words) l_l_words c_l_words k_l_words
  have b_l_words := F_l_words.binds (ps := P_l_words) fun _ _ _ _ _ _ us hl => match us, hl with | [_, _, _], _ => rfl
  have F_l_marks := fun_mk (st := s_l_marks) l_l_marks c_l_marks k_l_marks
  have b_l_marks := F_l_marks.binds (ps := P_l_marks) fun _ _ _ _ _ _ us hl => match us, hl with | [_, _, _, _], _ => rfl
  have F_l_text := fun_mk (st := s_l_text) l_l_text c_l_text k_l_text
  have b_l_text := F_l_text.binds (ps := P_l_text) fun _ _ _ _ _ _ us hl => match us, hl with | [_, _], _ => rfl
  have F_law := fun_mk (st := s_law) l_law c_law k_law
  have b_law := F_law.binds (ps := P_law) fun _ _ _ _ _ _ us hl => match us, hl with | [_], _ => rfl
  have F_NoColumn___init__ := fun_mk (st := s_NoColumn___init__) l_NoColumn___init__ c_NoColumn___init__ k_NoColumn___init__
  have b_NoColumn___init__ := F_NoColumn___init__.binds (ps := P_NoColumn___init__) fun _ _ _ _ _ _ us hl => match us, hl with | [_, _], _ => rfl
  have F_BadColumn___init__ := fun_mk (st := s_BadColumn___init__) l_BadColumn___init__ c_BadColumn___init__ k_BadColumn___init__
  have b_BadColumn___init__ := F_BadColumn___init__.binds (ps := P_BadColumn___init__) fun _ _ _ _ _ _ us hl => match us, hl with | [_, _], _ => rfl
  have F_BadBoundary___init__ := fun_mk (st := s_BadBoundary___init__) l_BadBoundary___init__ c_BadBoundary___init__ k_BadBoundary___init__
  have b_BadBoundary___init__ := F_BadBoundary___init__.binds (ps := P_BadBoundary___init__) fun _ _ _ _ _ _ us hl => match us, hl with | [_, _], _ => rfl
  have F_BadText___init__ := fun_mk (st := s_BadText___init__) l_BadText___init__ c_BadText___init__ k_BadText___init__
  have b_BadText___init__ := F_BadText___init__.binds (ps := P_BadText___init__) fun _ _ _ _ _ _ us hl => match us, hl with | [_, _, _], _ => rfl
  have F_BadCard___init__ := fun_mk (st := s_BadCard___init__) l_BadCard___init__ c_BadCard___init__ k_BadCard___init__
  have b_BadCard___init__ := F_BadCard___init__.binds (ps := P_BadCard___init__) fun _ _ _ _ _ _ us hl => match us, hl with | [_, _, _], _ => rfl
  have F_Column___init__ := fun_mk (st := s_Column___init__) l_Column___init__ c_Column___init__ k_Column___init__
  have b_Column___init__ := F_Column___init__.binds (ps := P_Column___init__) fun _ _ _ _ _ _ us hl => match us, hl with | [_, _], _ => rfl
  have F_Column_many := fun_mk (st := s_Column_many) l_Column_many c_Column_many k_Column_many
  have b_Column_many := F_Column_many.binds (ps := P_Column_many) fun _ _ _ _ _ _ us hl => match us, hl with | [_, _, _], _ => rfl
  have F_Column_heights := fun_mk (st := s_Column_heights) l_Column_heights c_Column_heights k_Column_heights
  have b_Column_heights := F_Column_heights.binds (ps := P_Column_heights) fun _ _ _ _ _ _ us hl => match us, hl with | [_], _ => rfl
  have F_Column___eq__ := fun_mk (st := s_Column___eq__) l_Column___eq__ c_Column___eq__ k_Column___eq__
  have b_Column___eq__ := F_Column___eq__.binds (ps := P_Column___eq__) fun _ _ _ _ _ _ us hl => match us, hl with | [_, _], _ => rfl
  have F_Column___str__ := fun_mk (st := s_Column___str__) l_Column___str__ c_Column___str__ k_Column___str__
  have b_Column___str__ := F_Column___str__.binds (ps := P_Column___str__) fun _ _ _ _ _ _ us hl => match us, hl with | [_], _ => rfl
  have F_Column___len__ := fun_mk (st := s_Column___len__) l_Column___len__ c_Column___len__ k_Column___len__
  have b_Column___len__ := F_Column___len__.binds (ps := P_Column___len__) fun _ _ _ _ _ _ us hl => match us, hl with | [_], _ => rfl
  have F_Column___iter__ := fun_mk (st := s_Column___iter__) l_Column___iter__ c_Column___iter__ k_Column___iter__
  have b_Column___iter__ := F_Column___iter__.binds (ps := P_Column___iter__) fun _ _ _ _ _ _ us hl => match us, hl with | [_], _ => rfl
  have F_Card___init__ := funV_mk (st := s_Card___init__) l_Card___init__ c_Card___init__ k_Card___init__
  have b_Card___init__ := bindsD (fd := (PySem.W.fnOf "__init__" "Card.__init__" (defArgs s_Card___init__) (defBody s_Card___init__) (defScope s_Card___init__) (.ref dt_Card___init__) kV_Card___init__ dc_Card___init__ pm_Card___init__ an_Card___init__ cd_Card___init__ ct_Card___init__)) (ps := P_Card___init__) lt_Card___init__ rfl fun us hl => match us, hl with | [_, _, _], _ => ⟨_, rfl, rfl⟩
  have F_Card_of_words : CmAt K "of_words" "Card.of_words" s_Card_of_words "marks" f_Card_of_words te_Card_of_words := ⟨⟨_, _, _, _, _, _, _, _, _, l_Card_of_words, c_Card_of_words, kw_Card_of_words⟩, ⟨_, _, lt_Card_of_words, rfl, rfl⟩⟩
  have F_Card_common := fun_mk (st := s_Card_common) l_Card_common c_Card_common k_Card_common
  have b_Card_common := F_Card_common.binds (ps := P_Card_common) fun _ _ _ _ _ _ us hl => match us, hl with | [_, _], _ => rfl
  have F_Card___eq__ := fun_mk (st := s_Card___eq__) l_Card___eq__ c_Card___eq__ k_Card___eq__
  have b_Card___eq__ := F_Card___eq__.binds (ps := P_Card___eq__) fun _ _ _ _ _ _ us hl => match us, hl with | [_, _], _ => rfl
  have F_Card___len__ := fun_mk (st := s_Card___len__) l_Card___len__ c_Card___len__ k_Card___len__
  have b_Card___len__ := F_Card___len__.binds (ps := P_Card___len__) fun _ _ _ _ _ _ us hl => match us, hl with | [_], _ => rfl
  have F_Card___iter__ := fun_mk (st := s_Card___iter__) l_Card___iter__ c_Card___iter__ k_Card___iter__
  have b_Card___iter__ := F_Card___iter__.binds (ps := P_Card___iter__) fun _ _ _ _ _ _ us hl => match us, hl with | [_], _ => rfl
  have T : Top K mg ({ f_is_number := f_is_number, f_is_whole := f_is_whole, f_is_sequence := f_is_sequence, f_word_fault := f_word_fault, f_common_steps := f_common_steps, f_check_columns := f_check_columns, f_mark_of := f_mark_of, f_new_marks := f_new_marks, f_card_text := f_card_text, f_is_number_text := f_is_number_text, f_slit_of := f_slit_of, f_is_word_row := f_is_word_row, f_word_row_fault := f_word_row_fault, f_slit_row_fault := f_slit_row_fault, f_parse_card := f_parse_card, f_l_mix := f_l_mix, f_l_hand := f_l_hand, f_l_draw := f_l_draw, f_l_word := f_l_word, f_l_near := f_l_near, f_l_words := f_l_words, f_l_marks := f_l_marks, f_l_text := f_l_text, f_law := f_law, f_NoColumn___init__ := f_NoColumn___init__, f_BadColumn___init__ := f_BadColumn___init__, f_BadBoundary___init__ := f_BadBoundary___init__, f_BadText___init__ := f_BadText___init__, f_BadCard___init__ := f_BadCard___init__, f_Column___init__ := f_Column___init__, f_Column_many := f_Column_many, f_Column_heights := f_Column_heights, f_Column___eq__ := f_Column___eq__, f_Column___str__ := f_Column___str__, f_Column___len__ := f_Column___len__, f_Column___iter__ := f_Column___iter__, f_Card___init__ := f_Card___init__, f_Card_of_words := f_Card_of_words, f_Card_common := f_Card_common, f_Card___eq__ := f_Card___eq__, f_Card___len__ := f_Card___len__, f_Card___iter__ := f_Card___iter__, d_is_number := (PySem.W.fnOf "is_number" "is_number" (defArgs s_is_number) (defBody s_is_number) (defScope s_is_number) .none kV_is_number dc_is_number pm_is_number an_is_number cd_is_number ct_is_number), d_is_whole := (PySem.W.fnOf "is_whole" "is_whole" (defArgs s_is_whole) (defBody s_is_whole) (defScope s_is_whole) .none kV_is_whole dc_is_whole pm_is_whole an_is_whole cd_is_whole ct_is_whole), d_is_sequence := (PySem.W.fnOf "is_sequence" "is_sequence" (defArgs s_is_sequence) (defBody s_is_sequence) (defScope s_is_sequence) .none kV_is_sequence dc_is_sequence pm_is_sequence an_is_sequence cd_is_sequence ct_is_sequence), d_word_fault := (PySem.W.fnOf "word_fault" "word_fault" (defArgs s_word_fault) (defBody s_word_fault) (defScope s_word_fault) .none kV_word_fault dc_word_fault pm_word_fault an_word_fault cd_word_fault ct_word_fault), d_common_steps := (PySem.W.fnOf "common_steps" "common_steps" (defArgs s_common_steps) (defBody s_common_steps) (defScope s_common_steps) .none kV_common_steps dc_common_steps pm_common_steps an_common_steps cd_common_steps ct_common_steps), d_check_columns := (PySem.W.fnOf "check_columns" "check_columns" (defArgs s_check_columns) (defBody s_check_columns) (defScope s_check_columns) .none kV_check_columns dc_check_columns pm_check_columns an_check_columns cd_check_columns ct_check_columns), d_mark_of := (PySem.W.fnOf "mark_of" "mark_of" (defArgs s_mark_of) (defBody s_mark_of) (defScope s_mark_of) .none kV_mark_of dc_mark_of pm_mark_of an_mark_of cd_mark_of ct_mark_of), d_new_marks := (PySem.W.fnOf "new_marks" "new_marks" (defArgs s_new_marks) (defBody s_new_marks) (defScope s_new_marks) .none kV_new_marks dc_new_marks pm_new_marks an_new_marks cd_new_marks ct_new_marks), d_card_text := (PySem.W.fnOf "card_text" "card_text" (defArgs s_card_text) (defBody s_card_text) (defScope s_card_text) .none kV_card_text dc_card_text pm_card_text an_card_text cd_card_text ct_card_text), d_is_number_text := (PySem.W.fnOf "is_number_text" "is_number_text" (defArgs s_is_number_text) (defBody s_is_number_text) (defScope s_is_number_text) .none kV_is_number_text dc_is_number_text pm_is_number_text an_is_number_text cd_is_number_text ct_is_number_text), d_slit_of := (PySem.W.fnOf "slit_of" "slit_of" (defArgs s_slit_of) (defBody s_slit_of) (defScope s_slit_of) .none kV_slit_of dc_slit_of pm_slit_of an_slit_of cd_slit_of ct_slit_of), d_is_word_row := (PySem.W.fnOf "is_word_row" "is_word_row" (defArgs s_is_word_row) (defBody s_is_word_row) (defScope s_is_word_row) .none kV_is_word_row dc_is_word_row pm_is_word_row an_is_word_row cd_is_word_row ct_is_word_row), d_word_row_fault := (PySem.W.fnOf "word_row_fault" "word_row_fault" (defArgs s_word_row_fault) (defBody s_word_row_fault) (defScope s_word_row_fault) .none kV_word_row_fault dc_word_row_fault pm_word_row_fault an_word_row_fault cd_word_row_fault ct_word_row_fault), d_slit_row_fault := (PySem.W.fnOf "slit_row_fault" "slit_row_fault" (defArgs s_slit_row_fault) (defBody s_slit_row_fault) (defScope s_slit_row_fault) .none kV_slit_row_fault dc_slit_row_fault pm_slit_row_fault an_slit_row_fault cd_slit_row_fault ct_slit_row_fault), d_parse_card := (PySem.W.fnOf "parse_card" "parse_card" (defArgs s_parse_card) (defBody s_parse_card) (defScope s_parse_card) .none kV_parse_card dc_parse_card pm_parse_card an_parse_card cd_parse_card ct_parse_card), d_l_mix := (PySem.W.fnOf "_law_mix" "_law_mix" (defArgs s_l_mix) (defBody s_l_mix) (defScope s_l_mix) .none kV_l_mix dc_l_mix pm_l_mix an_l_mix cd_l_mix ct_l_mix), d_l_hand := (PySem.W.fnOf "_law_hand" "_law_hand" (defArgs s_l_hand) (defBody s_l_hand) (defScope s_l_hand) .none kV_l_hand dc_l_hand pm_l_hand an_l_hand cd_l_hand ct_l_hand), d_l_draw := (PySem.W.fnOf "_law_draw" "_law_draw" (defArgs s_l_draw) (defBody s_l_draw) (defScope s_l_draw) .none kV_l_draw dc_l_draw pm_l_draw an_l_draw cd_l_draw ct_l_draw), d_l_word := (PySem.W.fnOf "_law_word" "_law_word" (defArgs s_l_word) (defBody s_l_word) (defScope s_l_word) .none kV_l_word dc_l_word pm_l_word an_l_word cd_l_word ct_l_word), d_l_near := (PySem.W.fnOf "_law_near" "_law_near" (defArgs s_l_near) (defBody s_l_near) (defScope s_l_near) .none kV_l_near dc_l_near pm_l_near an_l_near cd_l_near ct_l_near), d_l_words := (PySem.W.fnOf "_law_words" "_law_words" (defArgs s_l_words) (defBody s_l_words) (defScope s_l_words) .none kV_l_words dc_l_words pm_l_words an_l_words cd_l_words ct_l_words), d_l_marks := (PySem.W.fnOf "_law_marks" "_law_marks" (defArgs s_l_marks) (defBody s_l_marks) (defScope s_l_marks) .none kV_l_marks dc_l_marks pm_l_marks an_l_marks cd_l_marks ct_l_marks), d_l_text := (PySem.W.fnOf "_law_text" "_law_text" (defArgs s_l_text) (defBody s_l_text) (defScope s_l_text) .none kV_l_text dc_l_text pm_l_text an_l_text cd_l_text ct_l_text), d_law := (PySem.W.fnOf "law" "law" (defArgs s_law) (defBody s_law) (defScope s_law) .none kV_law dc_law pm_law an_law cd_law ct_law), d_NoColumn___init__ := (PySem.W.fnOf "__init__" "NoColumn.__init__" (defArgs s_NoColumn___init__) (defBody s_NoColumn___init__) (defScope s_NoColumn___init__) .none kV_NoColumn___init__ dc_NoColumn___init__ pm_NoColumn___init__ an_NoColumn___init__ cd_NoColumn___init__ ct_NoColumn___init__), d_BadColumn___init__ := (PySem.W.fnOf "__init__" "BadColumn.__init__" (defArgs s_BadColumn___init__) (defBody s_BadColumn___init__) (defScope s_BadColumn___init__) .none kV_BadColumn___init__ dc_BadColumn___init__ pm_BadColumn___init__ an_BadColumn___init__ cd_BadColumn___init__ ct_BadColumn___init__), d_BadBoundary___init__ := (PySem.W.fnOf "__init__" "BadBoundary.__init__" (defArgs s_BadBoundary___init__) (defBody s_BadBoundary___init__) (defScope s_BadBoundary___init__) .none kV_BadBoundary___init__ dc_BadBoundary___init__ pm_BadBoundary___init__ an_BadBoundary___init__ cd_BadBoundary___init__ ct_BadBoundary___init__), d_BadText___init__ := (PySem.W.fnOf "__init__" "BadText.__init__" (defArgs s_BadText___init__) (defBody s_BadText___init__) (defScope s_BadText___init__) .none kV_BadText___init__ dc_BadText___init__ pm_BadText___init__ an_BadText___init__ cd_BadText___init__ ct_BadText___init__), d_BadCard___init__ := (PySem.W.fnOf "__init__" "BadCard.__init__" (defArgs s_BadCard___init__) (defBody s_BadCard___init__) (defScope s_BadCard___init__) .none kV_BadCard___init__ dc_BadCard___init__ pm_BadCard___init__ an_BadCard___init__ cd_BadCard___init__ ct_BadCard___init__), d_Column___init__ := (PySem.W.fnOf "__init__" "Column.__init__" (defArgs s_Column___init__) (defBody s_Column___init__) (defScope s_Column___init__) .none kV_Column___init__ dc_Column___init__ pm_Column___init__ an_Column___init__ cd_Column___init__ ct_Column___init__), d_Column_many := (PySem.W.fnOf "many" "Column.many" (defArgs s_Column_many) (defBody s_Column_many) (defScope s_Column_many) .none kV_Column_many dc_Column_many pm_Column_many an_Column_many cd_Column_many ct_Column_many), d_Column_heights := (PySem.W.fnOf "heights" "Column.heights" (defArgs s_Column_heights) (defBody s_Column_heights) (defScope s_Column_heights) .none kV_Column_heights dc_Column_heights pm_Column_heights an_Column_heights cd_Column_heights ct_Column_heights), d_Column___eq__ := (PySem.W.fnOf "__eq__" "Column.__eq__" (defArgs s_Column___eq__) (defBody s_Column___eq__) (defScope s_Column___eq__) .none kV_Column___eq__ dc_Column___eq__ pm_Column___eq__ an_Column___eq__ cd_Column___eq__ ct_Column___eq__), d_Column___str__ := (PySem.W.fnOf "__str__" "Column.__str__" (defArgs s_Column___str__) (defBody s_Column___str__) (defScope s_Column___str__) .none kV_Column___str__ dc_Column___str__ pm_Column___str__ an_Column___str__ cd_Column___str__ ct_Column___str__), d_Column___len__ := (PySem.W.fnOf "__len__" "Column.__len__" (defArgs s_Column___len__) (defBody s_Column___len__) (defScope s_Column___len__) .none kV_Column___len__ dc_Column___len__ pm_Column___len__ an_Column___len__ cd_Column___len__ ct_Column___len__), d_Column___iter__ := (PySem.W.fnOf "__iter__" "Column.__iter__" (defArgs s_Column___iter__) (defBody s_Column___iter__) (defScope s_Column___iter__) .none kV_Column___iter__ dc_Column___iter__ pm_Column___iter__ an_Column___iter__ cd_Column___iter__ ct_Column___iter__), d_Card___init__ := (PySem.W.fnOf "__init__" "Card.__init__" (defArgs s_Card___init__) (defBody s_Card___init__) (defScope s_Card___init__) (.ref dt_Card___init__) kV_Card___init__ dc_Card___init__ pm_Card___init__ an_Card___init__ cd_Card___init__ ct_Card___init__), d_Card_of_words := (PySem.W.fnOf "of_words" "Card.of_words" (defArgs s_Card_of_words) (defBody s_Card_of_words) (defScope s_Card_of_words) .none (.ref kd_Card_of_words) dc_Card_of_words pm_Card_of_words an_Card_of_words cd_Card_of_words ct_Card_of_words), d_Card_common := (PySem.W.fnOf "common" "Card.common" (defArgs s_Card_common) (defBody s_Card_common) (defScope s_Card_common) .none kV_Card_common dc_Card_common pm_Card_common an_Card_common cd_Card_common ct_Card_common), d_Card___eq__ := (PySem.W.fnOf "__eq__" "Card.__eq__" (defArgs s_Card___eq__) (defBody s_Card___eq__) (defScope s_Card___eq__) .none kV_Card___eq__ dc_Card___eq__ pm_Card___eq__ an_Card___eq__ cd_Card___eq__ ct_Card___eq__), d_Card___len__ := (PySem.W.fnOf "__len__" "Card.__len__" (defArgs s_Card___len__) (defBody s_Card___len__) (defScope s_Card___len__) .none kV_Card___len__ dc_Card___len__ pm_Card___len__ an_Card___len__ cd_Card___len__ ct_Card___len__), d_Card___iter__ := (PySem.W.fnOf "__iter__" "Card.__iter__" (defArgs s_Card___iter__) (defBody s_Card___iter__) (defScope s_Card___iter__) .none kV_Card___iter__ dc_Card___iter__ pm_Card___iter__ an_Card___iter__ cd_Card___iter__ ct_Card___iter__), C_CardError := C_CardError, C_NoColumn := C_NoColumn, C_BadColumn := C_BadColumn, C_BadBoundary := C_BadBoundary, C_BadText := C_BadText, C_BadCard := C_BadCard, C_Column := C_Column, C_Card := C_Card, p_Column_heights := p_Column_heights, p_Card_of_words := p_Card_of_words, te_Card_of_words := te_Card_of_words } : Ads) := {
    D_is_number := ⟨F_is_number, b_is_number, PySem.W.mg_of X G a_is_number⟩,
    D_is_whole := ⟨F_is_whole, b_is_whole, PySem.W.mg_of X G a_is_whole⟩,
    D_is_sequence := ⟨F_is_sequence, b_is_sequence, PySem.W.mg_of X G a_is_sequence⟩,
    D_word_fault := ⟨F_word_fault, b_word_fault, PySem.W.mg_of X G a_word_fault⟩,
    D_common_steps := ⟨F_common_steps, b_common_steps, PySem.W.mg_of X G a_common_steps⟩,
    D_check_columns := ⟨F_check_columns, b_check_columns, PySem.W.mg_of X G a_check_columns⟩,
    D_mark_of := ⟨F_mark_of, b_mark_of, PySem.W.mg_of X G a_mark_of⟩,
    D_new_marks := ⟨F_new_marks, b_new_marks, PySem.W.mg_of X G a_new_marks⟩,
    D_card_text := ⟨F_card_text, b_card_text, PySem.W.mg_of X G a_card_text⟩,
    D_is_number_text := ⟨F_is_number_text, b_is_number_text, PySem.W.mg_of X G a_is_number_text⟩,
    D_slit_of := ⟨F_slit_of, b_slit_of, PySem.W.mg_of X G a_slit_of⟩,
    D_is_word_row := ⟨F_is_word_row, b_is_word_row, PySem.W.mg_of X G a_is_word_row⟩,
    D_word_row_fault := ⟨F_word_row_fault, b_word_row_fault, PySem.W.mg_of X G a_word_row_fault⟩,
    D_slit_row_fault := ⟨F_slit_row_fault, b_slit_row_fault, PySem.W.mg_of X G a_slit_row_fault⟩,
    D_parse_card := ⟨F_parse_card, b_parse_card, PySem.W.mg_of X G a_parse_card⟩,
    D_l_mix := ⟨F_l_mix, b_l_mix, PySem.W.mg_of X G a_l_mix⟩,
    D_l_hand := ⟨F_l_hand, b_l_hand, PySem.W.mg_of X G a_l_hand⟩,
    D_l_draw := ⟨F_l_draw, b_l_draw, PySem.W.mg_of X G a_l_draw⟩,
    D_l_word := ⟨F_l_word, b_l_word, PySem.W.mg_of X G a_l_word⟩,
    D_l_near := ⟨F_l_near, b_l_near, PySem.W.mg_of X G a_l_near⟩,
    D_l_words := ⟨F_l_words, b_l_words, PySem.W.mg_of X G a_l_words⟩,
    D_l_marks := ⟨F_l_marks, b_l_marks, PySem.W.mg_of X G a_l_marks⟩,
    D_l_text := ⟨F_l_text, b_l_text, PySem.W.mg_of X G a_l_text⟩,
    D_law := ⟨F_law, b_law, PySem.W.mg_of X G a_law⟩,
    D_NoColumn___init__ := ⟨F_NoColumn___init__, b_NoColumn___init__⟩,
    D_BadColumn___init__ := ⟨F_BadColumn___init__, b_BadColumn___init__⟩,
    D_BadBoundary___init__ := ⟨F_BadBoundary___init__, b_BadBoundary___init__⟩,
    D_BadText___init__ := ⟨F_BadText___init__, b_BadText___init__⟩,
    D_BadCard___init__ := ⟨F_BadCard___init__, b_BadCard___init__⟩,
    D_Column___init__ := ⟨F_Column___init__, b_Column___init__⟩,
    D_Column_many := ⟨F_Column_many, b_Column_many⟩,
    D_Column_heights := ⟨F_Column_heights, b_Column_heights⟩,
    D_Column___eq__ := ⟨F_Column___eq__, b_Column___eq__⟩,
    D_Column___str__ := ⟨F_Column___str__, b_Column___str__⟩,
    D_Column___len__ := ⟨F_Column___len__, b_Column___len__⟩,
    D_Column___iter__ := ⟨F_Column___iter__, b_Column___iter__⟩,
    D_Card___init__ := ⟨F_Card___init__, b_Card___init__⟩,
    D_Card_of_words := F_Card_of_words,
    D_Card_common := ⟨F_Card_common, b_Card_common⟩,
    D_Card___eq__ := ⟨F_Card___eq__, b_Card___eq__⟩,
    D_Card___len__ := ⟨F_Card___len__, b_Card___len__⟩,
    D_Card___iter__ := ⟨F_Card___iter__, b_Card___iter__⟩,
    g_CardError := PySem.W.mg_of X G ac_CardError,
    x_NoColumn := ⟨PySem.W.mg_of X G ac_NoColumn, ⟨⟨_, _, _, _, _, _, _, _, _, _, _, _, _, _, _, xl_NoColumn, rv_NoColumn⟩, sa_NoColumn, ec_NoColumn, ty_NoColumn, kc_NoColumn⟩, ⟨ga_NoColumn, gg_NoColumn, ec_NoColumn, hd_NoColumn⟩, a_NoColumn___init__, ti_NoColumn, exm_of ec_NoColumn ic_NoColumn ty_NoColumn ss_NoColumn⟩,
    g_NoColumn := PySem.W.mg_of X G ac_NoColumn,
    n_NoColumn_column := n_NoColumn_column,
    up_NoColumn_CardError := exm_of ec_CardError ic_CardError ty_CardError up_NoColumn_CardError,
    x_BadColumn := ⟨PySem.W.mg_of X G ac_BadColumn, ⟨⟨_, _, _, _, _, _, _, _, _, _, _, _, _, _, _, xl_BadColumn, rv_BadColumn⟩, sa_BadColumn, ec_BadColumn, ty_BadColumn, kc_BadColumn⟩, ⟨ga_BadColumn, gg_BadColumn, ec_BadColumn, hd_BadColumn⟩, a_BadColumn___init__, ti_BadColumn, exm_of ec_BadColumn ic_BadColumn ty_BadColumn ss_BadColumn⟩,
    g_BadColumn := PySem.W.mg_of X G ac_BadColumn,
    n_BadColumn_what := n_BadColumn_what,
    up_BadColumn_CardError := exm_of ec_CardError ic_CardError ty_CardError up_BadColumn_CardError,
    x_BadBoundary := ⟨PySem.W.mg_of X G ac_BadBoundary, ⟨⟨_, _, _, _, _, _, _, _, _, _, _, _, _, _, _, xl_BadBoundary, rv_BadBoundary⟩, sa_BadBoundary, ec_BadBoundary, ty_BadBoundary, kc_BadBoundary⟩, ⟨ga_BadBoundary, gg_BadBoundary, ec_BadBoundary, hd_BadBoundary⟩, a_BadBoundary___init__, ti_BadBoundary, exm_of ec_BadBoundary ic_BadBoundary ty_BadBoundary ss_BadBoundary⟩,
    g_BadBoundary := PySem.W.mg_of X G ac_BadBoundary,
    n_BadBoundary_boundary := n_BadBoundary_boundary,
    up_BadBoundary_CardError := exm_of ec_CardError ic_CardError ty_CardError up_BadBoundary_CardError,
    x_BadText := ⟨PySem.W.mg_of X G ac_BadText, ⟨⟨_, _, _, _, _, _, _, _, _, _, _, _, _, _, _, xl_BadText, rv_BadText⟩, sa_BadText, ec_BadText, ty_BadText, kc_BadText⟩, ⟨ga_BadText, gg_BadText, ec_BadText, hd_BadText⟩, a_BadText___init__, ti_BadText, exm_of ec_BadText ic_BadText ty_BadText ss_BadText⟩,
    g_BadText := PySem.W.mg_of X G ac_BadText,
    n_BadText_row := n_BadText_row,
    n_BadText_what := n_BadText_what,
    up_BadText_CardError := exm_of ec_CardError ic_CardError ty_CardError up_BadText_CardError,
    x_BadCard := ⟨PySem.W.mg_of X G ac_BadCard, ⟨⟨_, _, _, _, _, _, _, _, _, _, _, _, _, _, _, xl_BadCard, rv_BadCard⟩, sa_BadCard, ec_BadCard, ty_BadCard, kc_BadCard⟩, ⟨ga_BadCard, gg_BadCard, ec_BadCard, hd_BadCard⟩, a_BadCard___init__, ti_BadCard, exm_of ec_BadCard ic_BadCard ty_BadCard ss_BadCard⟩,
    g_BadCard := PySem.W.mg_of X G ac_BadCard,
    n_BadCard_index := n_BadCard_index,
    n_BadCard_what := n_BadCard_what,
    up_BadCard_CardError := exm_of ec_CardError ic_CardError ty_CardError up_BadCard_CardError,
    g_Column := PySem.W.mg_of X G ac_Column,
    cl_Column := ⟨pg_Column, hd_Column, po_Column, sa_Column⟩,
    i1_Column := i1_Column,
    i4_Column := i4_Column,
    ii_Column := kit_self,
    it_str_Column := kit_own ic_Column ty_Column it_str_Column,
    it_int_Column := kit_own ic_Column ty_Column it_int_Column,
    it_bool_Column := kit_own ic_Column ty_Column it_bool_Column,
    it_NoneType_Column := kit_own ic_Column ty_Column it_NoneType_Column,
    it_list_Column := kit_own ic_Column ty_Column it_list_Column,
    it_tuple_Column := kit_own ic_Column ty_Column it_tuple_Column,
    it_dict_Column := kit_own ic_Column ty_Column it_dict_Column,
    ti_Column_str := kit_kind (by decide +kernel) ti_str_Column,
    ti_Column_int := kit_kind (by decide +kernel) ti_int_Column,
    ti_Column_bool := kit_kind (by decide +kernel) ti_bool_Column,
    ti_Column_list := kit_kind (by decide +kernel) ti_list_Column,
    ti_Column_tuple := kit_kind (by decide +kernel) ti_tuple_Column,
    subt_Column := it_tuple_Column,
    subl_Column := it_list_Column,
    sub_Column := sub_Column,
    ne_Column := ⟨ne_Column, i4_Column⟩,
    mk_Column := ⟨mk_Column, a_Column___init__, fn_Column___init__, kc_Column⟩,
    n_Column_word := n_Column_word,
    n_Column_size := n_Column_size,
    o_Column_many := ⟨a_Column_many, fn_Column_many⟩,
    m_Column_many := ⟨a_Column_many, fn_Column_many, k_Column_many⟩,
    p_Column_heights := ⟨a_Column_heights, pg_Column_heights, pt_Column_heights, ⟨_, r_Column_heights⟩⟩,
    o_Column___eq__ := ⟨a_Column___eq__, fn_Column___eq__⟩,
    m_Column___eq__ := ⟨a_Column___eq__, fn_Column___eq__, k_Column___eq__⟩,
    o_Column___str__ := ⟨a_Column___str__, fn_Column___str__⟩,
    m_Column___str__ := ⟨a_Column___str__, fn_Column___str__, k_Column___str__⟩,
    o_Column___len__ := ⟨a_Column___len__, fn_Column___len__⟩,
    m_Column___len__ := ⟨a_Column___len__, fn_Column___len__, k_Column___len__⟩,
    o_Column___iter__ := ⟨a_Column___iter__, fn_Column___iter__⟩,
    m_Column___iter__ := ⟨a_Column___iter__, fn_Column___iter__, k_Column___iter__⟩,
    g_Card := PySem.W.mg_of X G ac_Card,
    cl_Card := ⟨pg_Card, hd_Card, po_Card, sa_Card⟩,
    i1_Card := i1_Card,
    i4_Card := i4_Card,
    ii_Card := kit_self,
    it_str_Card := kit_own ic_Card ty_Card it_str_Card,
    it_int_Card := kit_own ic_Card ty_Card it_int_Card,
    it_bool_Card := kit_own ic_Card ty_Card it_bool_Card,
    it_NoneType_Card := kit_own ic_Card ty_Card it_NoneType_Card,
    it_list_Card := kit_own ic_Card ty_Card it_list_Card,
    it_tuple_Card := kit_own ic_Card ty_Card it_tuple_Card,
    it_dict_Card := kit_own ic_Card ty_Card it_dict_Card,
    ti_Card_str := kit_kind (by decide +kernel) ti_str_Card,
    ti_Card_int := kit_kind (by decide +kernel) ti_int_Card,
    ti_Card_bool := kit_kind (by decide +kernel) ti_bool_Card,
    ti_Card_list := kit_kind (by decide +kernel) ti_list_Card,
    ti_Card_tuple := kit_kind (by decide +kernel) ti_tuple_Card,
    subt_Card := it_tuple_Card,
    subl_Card := it_list_Card,
    sub_Card := sub_Card,
    ne_Card := ⟨ne_Card, i4_Card⟩,
    cr_Card := ⟨rd_Card, rg_Card⟩,
    mk_Card := ⟨mk_Card, a_Card___init__, fn_Card___init__, kc_Card⟩,
    n_Card_columns := n_Card_columns,
    n_Card_size := n_Card_size,
    n_Card_width := n_Card_width,
    n_Card_words := n_Card_words,
    n_Card_marks := n_Card_marks,
    cm_Card_of_words := cmet_of a0_Card_of_words a_Card_of_words pt_Card_of_words pg_Card_of_words r_Card_of_words fi_Card_of_words,
    o_Card_common := ⟨a_Card_common, fn_Card_common⟩,
    m_Card_common := ⟨a_Card_common, fn_Card_common, k_Card_common⟩,
    o_Card___eq__ := ⟨a_Card___eq__, fn_Card___eq__⟩,
    m_Card___eq__ := ⟨a_Card___eq__, fn_Card___eq__, k_Card___eq__⟩,
    o_Card___len__ := ⟨a_Card___len__, fn_Card___len__⟩,
    m_Card___len__ := ⟨a_Card___len__, fn_Card___len__, k_Card___len__⟩,
    o_Card___iter__ := ⟨a_Card___iter__, fn_Card___iter__⟩,
    m_Card___iter__ := ⟨a_Card___iter__, fn_Card___iter__, k_Card___iter__⟩,
    c_MOST_SIZE := ⟨_, PySem.W.mg_of X G kc_MOST_SIZE⟩,
    c_MOST_WIDTH := ⟨_, PySem.W.mg_of X G kc_MOST_WIDTH⟩,
    c_MOST_DIGITS := ⟨_, PySem.W.mg_of X G kc_MOST_DIGITS⟩,
    c_DIGITS := ⟨_, PySem.W.mg_of X G kc_DIGITS⟩,
    i2 := i2,
    i3 := i3,
    b_ValueError := PySem.W.mg_none_of X G z_ValueError,
    b_abs := PySem.W.mg_none_of X G z_abs,
    b_all := PySem.W.mg_none_of X G z_all,
    b_bool := PySem.W.mg_none_of X G z_bool,
    b_classmethod := PySem.W.mg_none_of X G z_classmethod,
    b_enumerate := PySem.W.mg_none_of X G z_enumerate,
    b_int := PySem.W.mg_none_of X G z_int,
    b_isinstance := PySem.W.mg_none_of X G z_isinstance,
    b_iter := PySem.W.mg_none_of X G z_iter,
    b_len := PySem.W.mg_none_of X G z_len,
    b_list := PySem.W.mg_none_of X G z_list,
    b_property := PySem.W.mg_none_of X G z_property,
    b_range := PySem.W.mg_none_of X G z_range,
    b_sorted := PySem.W.mg_none_of X G z_sorted,
    b_staticmethod := PySem.W.mg_none_of X G z_staticmethod,
    b_str := PySem.W.mg_none_of X G z_str,
    b_tuple := PySem.W.mg_none_of X G z_tuple }
  exact ⟨(PySem.W.fnOf "law" "law" (defArgs s_law) (defBody s_law) (defScope s_law) .none kV_law dc_law pm_law an_law cd_law ct_law), fun s v => .of_eq rfl, fun base _ _ => ok_law T⟩
theorem walk {l : PySem.W.OpenLaw} {q : Program} {loose : List Str} {XP : (Str → Option Value) → Heap → Prop} {YP : World → Heap → Prop} {d : DefRec} {K : Params → PySem.W.Frag} (hn : l.most = some 63) (hdf : d.params.defaults = [])
    (hY : ∀ (w : World) (h : Heap), YP w h → (K w.params).In h)
    (F : ∀ (w : World) (mg : Str → Option Value) (fa : Addr) (h : Heap), (K w.params).In h → h.Ns mainGlobals mg → mg d.name = some (.ref fa) →
      ∃ fd : FuncData, (∀ (s : Shared) (u : Value), BindsTo s fd ⟨[u], []⟩ [("_law_script", u)]) ∧ ∀ base : Heap, (K w.params).In base → base.Ns mainGlobals mg → FnOk l.prog w (K w.params) mg base CX0 14 fa fd ["_law_script"] (spLaw (K w.params))) :
    PySem.W.WalkO q loose XP YP l.row.toRowW d [] (fun f vs => PySem.call f vs) :=
  L2.walk_ofB (n := 63) (k := 14) (x := "_law_script") (CX := fun _ => CX0) (sp := fun w => spLaw (K w.params)) hn (by decide) hdf ⟨rfl, by decide, by decide⟩ hY F (fun _ _ a ns hl _ _ hS => ⟨a, ns, rfl, hS, hl, fun _ => rfl⟩) fun _ _ _ _ _ z => z


end Sl
open PySem PySem.W PyProof.Rows
set_option maxRecDepth 100000 in
set_option maxHeartbeats 0 in
theorem PySem.Challenge.cw_slitstairs_k05_whole_texts_of_cards_holds : PySem.Challenge.rw_slitstairs_k05_whole_texts_of_cards.Holds := by
  w_on; o_law; k_head; (case hw => w_witness2)
  k_fill
  refine Sl.walk (l := PySem.Challenge.rw_slitstairs_k05_whole_texts_of_cards) rfl rfl (fun w h Y => PySem.W.kIn_of Y) ?F
  case F =>
    intro w mg fa h KX G hmg
    refine' Sl.all_mk KX G hmg ?ac_CardError ?ac_NoColumn ?ac_BadColumn ?ac_BadBoundary ?ac_BadText ?ac_BadCard ?ac_Column ?ac_Card ?a_is_number ?l_is_number ?c_is_number ?k_is_number ?a_is_whole ?l_is_whole ?c_is_whole ?k_is_whole ?a_is_sequence ?l_is_sequence ?c_is_sequence ?k_is_sequence ?a_word_fault ?l_word_fault ?c_word_fault ?k_word_fault ?a_common_steps ?l_common_steps ?c_common_steps ?k_common_steps ?a_check_columns ?l_check_columns ?c_check_columns ?k_check_columns ?a_mark_of ?l_mark_of ?c_mark_of ?k_mark_of ?a_new_marks ?l_new_marks ?c_new_marks ?k_new_marks ?a_card_text ?l_card_text ?c_card_text ?k_card_text ?a_is_number_text ?l_is_number_text ?c_is_number_text ?k_is_number_text ?a_slit_of ?l_slit_of ?c_slit_of ?k_slit_of ?a_is_word_row ?l_is_word_row ?c_is_word_row ?k_is_word_row ?a_word_row_fault ?l_word_row_fault ?c_word_row_fault ?k_word_row_fault ?a_slit_row_fault ?l_slit_row_fault ?c_slit_row_fault ?k_slit_row_fault ?a_parse_card ?l_parse_card ?c_parse_card ?k_parse_card ?a_l_mix ?l_l_mix ?c_l_mix ?k_l_mix ?a_l_hand ?l_l_hand ?c_l_hand ?k_l_hand ?a_l_draw ?l_l_draw ?c_l_draw ?k_l_draw ?a_l_word ?l_l_word ?c_l_word ?k_l_word ?a_l_near ?l_l_near ?c_l_near ?k_l_near ?a_l_words ?l_l_words ?c_l_words ?k_l_words ?a_l_marks ?l_l_marks ?c_l_marks ?k_l_marks ?a_l_text ?l_l_text ?c_l_text ?k_l_text ?a_law ?l_law ?c_law ?k_law ?a_NoColumn___init__ ?l_NoColumn___init__ ?c_NoColumn___init__ ?k_NoColumn___init__ ?fn_NoColumn___init__ ?a_BadColumn___init__ ?l_BadColumn___init__ ?c_BadColumn___init__ ?k_BadColumn___init__ ?fn_BadColumn___init__ ?a_BadBoundary___init__ ?l_BadBoundary___init__ ?c_BadBoundary___init__ ?k_BadBoundary___init__ ?fn_BadBoundary___init__ ?a_BadText___init__ ?l_BadText___init__ ?c_BadText___init__ ?k_BadText___init__ ?fn_BadText___init__ ?a_BadCard___init__ ?l_BadCard___init__ ?c_BadCard___init__ ?k_BadCard___init__ ?fn_BadCard___init__ ?a_Column___init__ ?l_Column___init__ ?c_Column___init__ ?k_Column___init__ ?fn_Column___init__ ?a_Column_many ?l_Column_many ?c_Column_many ?k_Column_many ?fn_Column_many ?a_Column_heights ?r_Column_heights ?pg_Column_heights ?pt_Column_heights ?l_Column_heights ?c_Column_heights ?k_Column_heights ?a_Column___eq__ ?l_Column___eq__ ?c_Column___eq__ ?k_Column___eq__ ?fn_Column___eq__ ?a_Column___str__ ?l_Column___str__ ?c_Column___str__ ?k_Column___str__ ?fn_Column___str__ ?a_Column___len__ ?l_Column___len__ ?c_Column___len__ ?k_Column___len__ ?fn_Column___len__ ?a_Column___iter__ ?l_Column___iter__ ?c_Column___iter__ ?k_Column___iter__ ?fn_Column___iter__ ?a_Card___init__ ?l_Card___init__ ?lt_Card___init__ ?c_Card___init__ ?k_Card___init__ ?fn_Card___init__ ?a0_Card_of_words ?a_Card_of_words ?r_Card_of_words ?pg_Card_of_words ?pt_Card_of_words ?fi_Card_of_words ?l_Card_of_words ?kw_Card_of_words ?lt_Card_of_words ?c_Card_of_words ?k_Card_of_words ?a_Card_common ?l_Card_common ?c_Card_common ?k_Card_common ?fn_Card_common ?a_Card___eq__ ?l_Card___eq__ ?c_Card___eq__ ?k_Card___eq__ ?fn_Card___eq__ ?a_Card___len__ ?l_Card___len__ ?c_Card___len__ ?k_Card___len__ ?fn_Card___len__ ?a_Card___iter__ ?l_Card___iter__ ?c_Card___iter__ ?k_Card___iter__ ?fn_Card___iter__ ?ec_CardError ?ty_CardError ?ic_CardError ?ss_CardError ?xl_NoColumn ?rv_NoColumn ?sa_NoColumn ?ga_NoColumn ?gg_NoColumn ?kc_NoColumn ?hd_NoColumn ?ti_NoColumn ?ec_NoColumn ?ty_NoColumn ?ic_NoColumn ?ss_NoColumn ?n_NoColumn_column ?up_NoColumn_CardError ?xl_BadColumn ?rv_BadColumn ?sa_BadColumn ?ga_BadColumn ?gg_BadColumn ?kc_BadColumn ?hd_BadColumn ?ti_BadColumn ?ec_BadColumn ?ty_BadColumn ?ic_BadColumn ?ss_BadColumn ?n_BadColumn_what ?up_BadColumn_CardError ?xl_BadBoundary ?rv_BadBoundary ?sa_BadBoundary ?ga_BadBoundary ?gg_BadBoundary ?kc_BadBoundary ?hd_BadBoundary ?ti_BadBoundary ?ec_BadBoundary ?ty_BadBoundary ?ic_BadBoundary ?ss_BadBoundary ?n_BadBoundary_boundary ?up_BadBoundary_CardError ?xl_BadText ?rv_BadText ?sa_BadText ?ga_BadText ?gg_BadText ?kc_BadText ?hd_BadText ?ti_BadText ?ec_BadText ?ty_BadText ?ic_BadText ?ss_BadText ?n_BadText_row ?n_BadText_what ?up_BadText_CardError ?xl_BadCard ?rv_BadCard ?sa_BadCard ?ga_BadCard ?gg_BadCard ?kc_BadCard ?hd_BadCard ?ti_BadCard ?ec_BadCard ?ty_BadCard ?ic_BadCard ?ss_BadCard ?n_BadCard_index ?n_BadCard_what ?up_BadCard_CardError ?pg_Column ?hd_Column ?po_Column ?sa_Column ?i1_Column ?i4_Column ?ic_Column ?ty_Column ?it_str_Column ?it_int_Column ?it_bool_Column ?it_NoneType_Column ?it_list_Column ?it_tuple_Column ?it_dict_Column ?ti_str_Column ?ti_int_Column ?ti_bool_Column ?ti_list_Column ?ti_tuple_Column ?sub_Column ?ne_Column ?mk_Column ?kc_Column ?n_Column_word ?n_Column_size ?pg_Card ?hd_Card ?po_Card ?sa_Card ?i1_Card ?i4_Card ?ic_Card ?ty_Card ?it_str_Card ?it_int_Card ?it_bool_Card ?it_NoneType_Card ?it_list_Card ?it_tuple_Card ?it_dict_Card ?ti_str_Card ?ti_int_Card ?ti_bool_Card ?ti_list_Card ?ti_tuple_Card ?sub_Card ?ne_Card ?rd_Card ?rg_Card ?mk_Card ?kc_Card ?n_Card_columns ?n_Card_size ?n_Card_width ?n_Card_words ?n_Card_marks ?kc_MOST_SIZE ?kc_MOST_WIDTH ?kc_MOST_DIGITS ?kc_DIGITS ?i2 ?i3 ?z_ValueError ?z_abs ?z_all ?z_bool ?z_classmethod ?z_enumerate ?z_int ?z_isinstance ?z_iter ?z_len ?z_list ?z_property ?z_range ?z_sorted ?z_staticmethod ?z_str ?z_tuple
    (case ac_CardError => k_is)
    (case ac_NoColumn => k_is)
    (case ac_BadColumn => k_is)
    (case ac_BadBoundary => k_is)
    (case ac_BadText => k_is)
    (case ac_BadCard => k_is)
    (case ac_Column => k_is)
    (case ac_Card => k_is)
    (case a_is_number => k_is)
    (case l_is_number => k_is)
    (case c_is_number => k_is)
    (case k_is_number => k_is)
    (case a_is_whole => k_is)
    (case l_is_whole => k_is)
    (case c_is_whole => k_is)
    (case k_is_whole => k_is)
    (case a_is_sequence => k_is)
    (case l_is_sequence => k_is)
    (case c_is_sequence => k_is)
    (case k_is_sequence => k_is)
    (case a_word_fault => k_is)
    (case l_word_fault => k_is)
    (case c_word_fault => k_is)
    (case k_word_fault => k_is)
    (case a_common_steps => k_is)
    (case l_common_steps => k_is)
    (case c_common_steps => k_is)
    (case k_common_steps => k_is)
    (case a_check_columns => k_is)
    (case l_check_columns => k_is)
    (case c_check_columns => k_is)
    (case k_check_columns => k_is)
    (case a_mark_of => k_is)
    (case l_mark_of => k_is)
    (case c_mark_of => k_is)
    (case k_mark_of => k_is)
    (case a_new_marks => k_is)
    (case l_new_marks => k_is)
    (case c_new_marks => k_is)
    (case k_new_marks => k_is)
    (case a_card_text => k_is)
    (case l_card_text => k_is)
    (case c_card_text => k_is)
    (case k_card_text => k_is)
    (case a_is_number_text => k_is)
    (case l_is_number_text => k_is)
    (case c_is_number_text => k_is)
    (case k_is_number_text => k_is)
    (case a_slit_of => k_is)
    (case l_slit_of => k_is)
    (case c_slit_of => k_is)
    (case k_slit_of => k_is)
    (case a_is_word_row => k_is)
    (case l_is_word_row => k_is)
    (case c_is_word_row => k_is)
    (case k_is_word_row => k_is)
    (case a_word_row_fault => k_is)
    (case l_word_row_fault => k_is)
    (case c_word_row_fault => k_is)
    (case k_word_row_fault => k_is)
    (case a_slit_row_fault => k_is)
    (case l_slit_row_fault => k_is)
    (case c_slit_row_fault => k_is)
    (case k_slit_row_fault => k_is)
    (case a_parse_card => k_is)
    (case l_parse_card => k_is)
    (case c_parse_card => k_is)
    (case k_parse_card => k_is)
    (case a_l_mix => k_is)
    (case l_l_mix => k_is)
    (case c_l_mix => k_is)
    (case k_l_mix => k_is)
    (case a_l_hand => k_is)
    (case l_l_hand => k_is)
    (case c_l_hand => k_is)
    (case k_l_hand => k_is)
    (case a_l_draw => k_is)
    (case l_l_draw => k_is)
    (case c_l_draw => k_is)
    (case k_l_draw => k_is)
    (case a_l_word => k_is)
    (case l_l_word => k_is)
    (case c_l_word => k_is)
    (case k_l_word => k_is)
    (case a_l_near => k_is)
    (case l_l_near => k_is)
    (case c_l_near => k_is)
    (case k_l_near => k_is)
    (case a_l_words => k_is)
    (case l_l_words => k_is)
    (case c_l_words => k_is)
    (case k_l_words => k_is)
    (case a_l_marks => k_is)
    (case l_l_marks => k_is)
    (case c_l_marks => k_is)
    (case k_l_marks => k_is)
    (case a_l_text => k_is)
    (case l_l_text => k_is)
    (case c_l_text => k_is)
    (case k_l_text => k_is)
    (case a_law => k_is)
    (case l_law => k_is)
    (case c_law => k_is)
    (case k_law => k_is)
    (case a_NoColumn___init__ => k_is)
    (case l_NoColumn___init__ => k_is)
    (case c_NoColumn___init__ => k_is)
    (case k_NoColumn___init__ => k_is)
    (case fn_NoColumn___init__ => k_is)
    (case a_BadColumn___init__ => k_is)
    (case l_BadColumn___init__ => k_is)
    (case c_BadColumn___init__ => k_is)
    (case k_BadColumn___init__ => k_is)
    (case fn_BadColumn___init__ => k_is)
    (case a_BadBoundary___init__ => k_is)
    (case l_BadBoundary___init__ => k_is)
    (case c_BadBoundary___init__ => k_is)
    (case k_BadBoundary___init__ => k_is)
    (case fn_BadBoundary___init__ => k_is)
    (case a_BadText___init__ => k_is)
    (case l_BadText___init__ => k_is)
    (case c_BadText___init__ => k_is)
    (case k_BadText___init__ => k_is)
    (case fn_BadText___init__ => k_is)
    (case a_BadCard___init__ => k_is)
    (case l_BadCard___init__ => k_is)
    (case c_BadCard___init__ => k_is)
    (case k_BadCard___init__ => k_is)
    (case fn_BadCard___init__ => k_is)
    (case a_Column___init__ => k_is)
    (case l_Column___init__ => k_is)
    (case c_Column___init__ => k_is)
    (case k_Column___init__ => k_is)
    (case fn_Column___init__ => k_is)
    (case a_Column_many => k_is)
    (case l_Column_many => k_is)
    (case c_Column_many => k_is)
    (case k_Column_many => k_is)
    (case fn_Column_many => k_is)
    (case a_Column_heights => k_is)
    (case r_Column_heights => k_is)
    (case pg_Column_heights => k_is)
    (case pt_Column_heights => k_is)
    (case l_Column_heights => k_is)
    (case c_Column_heights => k_is)
    (case k_Column_heights => k_is)
    (case a_Column___eq__ => k_is)
    (case l_Column___eq__ => k_is)
    (case c_Column___eq__ => k_is)
    (case k_Column___eq__ => k_is)
    (case fn_Column___eq__ => k_is)
    (case a_Column___str__ => k_is)
    (case l_Column___str__ => k_is)
    (case c_Column___str__ => k_is)
    (case k_Column___str__ => k_is)
    (case fn_Column___str__ => k_is)
    (case a_Column___len__ => k_is)
    (case l_Column___len__ => k_is)
    (case c_Column___len__ => k_is)
    (case k_Column___len__ => k_is)
    (case fn_Column___len__ => k_is)
    (case a_Column___iter__ => k_is)
    (case l_Column___iter__ => k_is)
    (case c_Column___iter__ => k_is)
    (case k_Column___iter__ => k_is)
    (case fn_Column___iter__ => k_is)
    (case a_Card___init__ => k_is)
    (case l_Card___init__ => k_is)
    (case lt_Card___init__ => k_is)
    (case c_Card___init__ => k_is)
    (case k_Card___init__ => k_is)
    (case fn_Card___init__ => k_is)
    (case a0_Card_of_words => k_is)
    (case a_Card_of_words => k_is)
    (case r_Card_of_words => k_is)
    (case pg_Card_of_words => k_is)
    (case pt_Card_of_words => k_is)
    (case fi_Card_of_words => k_is)
    (case l_Card_of_words => k_is)
    (case kw_Card_of_words => k_is)
    (case lt_Card_of_words => k_is)
    (case c_Card_of_words => k_is)
    (case k_Card_of_words => k_is)
    (case a_Card_common => k_is)
    (case l_Card_common => k_is)
    (case c_Card_common => k_is)
    (case k_Card_common => k_is)
    (case fn_Card_common => k_is)
    (case a_Card___eq__ => k_is)
    (case l_Card___eq__ => k_is)
    (case c_Card___eq__ => k_is)
    (case k_Card___eq__ => k_is)
    (case fn_Card___eq__ => k_is)
    (case a_Card___len__ => k_is)
    (case l_Card___len__ => k_is)
    (case c_Card___len__ => k_is)
    (case k_Card___len__ => k_is)
    (case fn_Card___len__ => k_is)
    (case a_Card___iter__ => k_is)
    (case l_Card___iter__ => k_is)
    (case c_Card___iter__ => k_is)
    (case k_Card___iter__ => k_is)
    (case fn_Card___iter__ => k_is)
    (case ec_CardError => k_is)
    (case ty_CardError => k_is)
    (case ic_CardError => k_is)
    (case ss_CardError => first | rfl | k_is)
    (case xl_NoColumn => k_is)
    (case rv_NoColumn => first | rfl | decide +kernel)
    (case sa_NoColumn => k_is)
    (case ga_NoColumn => k_is)
    (case gg_NoColumn => k_is)
    (case kc_NoColumn => k_is)
    (case hd_NoColumn => k_is)
    (case ti_NoColumn => k_is)
    (case ec_NoColumn => k_is)
    (case ty_NoColumn => k_is)
    (case ic_NoColumn => k_is)
    (case ss_NoColumn => first | rfl | k_is)
    (case n_NoColumn_column => k_is)
    (case up_NoColumn_CardError => k_is)
    (case xl_BadColumn => k_is)
    (case rv_BadColumn => first | rfl | decide +kernel)
    (case sa_BadColumn => k_is)
    (case ga_BadColumn => k_is)
    (case gg_BadColumn => k_is)
    (case kc_BadColumn => k_is)
    (case hd_BadColumn => k_is)
    (case ti_BadColumn => k_is)
    (case ec_BadColumn => k_is)
    (case ty_BadColumn => k_is)
    (case ic_BadColumn => k_is)
    (case ss_BadColumn => first | rfl | k_is)
    (case n_BadColumn_what => k_is)
    (case up_BadColumn_CardError => k_is)
    (case xl_BadBoundary => k_is)
    (case rv_BadBoundary => first | rfl | decide +kernel)
    (case sa_BadBoundary => k_is)
    (case ga_BadBoundary => k_is)
    (case gg_BadBoundary => k_is)
    (case kc_BadBoundary => k_is)
    (case hd_BadBoundary => k_is)
    (case ti_BadBoundary => k_is)
    (case ec_BadBoundary => k_is)
    (case ty_BadBoundary => k_is)
    (case ic_BadBoundary => k_is)
    (case ss_BadBoundary => first | rfl | k_is)
    (case n_BadBoundary_boundary => k_is)
    (case up_BadBoundary_CardError => k_is)
    (case xl_BadText => k_is)
    (case rv_BadText => first | rfl | decide +kernel)
    (case sa_BadText => k_is)
    (case ga_BadText => k_is)
    (case gg_BadText => k_is)
    (case kc_BadText => k_is)
    (case hd_BadText => k_is)
    (case ti_BadText => k_is)
    (case ec_BadText => k_is)
    (case ty_BadText => k_is)
    (case ic_BadText => k_is)
    (case ss_BadText => first | rfl | k_is)
    (case n_BadText_row => k_is)
    (case n_BadText_what => k_is)
    (case up_BadText_CardError => k_is)
    (case xl_BadCard => k_is)
    (case rv_BadCard => first | rfl | decide +kernel)
    (case sa_BadCard => k_is)
    (case ga_BadCard => k_is)
    (case gg_BadCard => k_is)
    (case kc_BadCard => k_is)
    (case hd_BadCard => k_is)
    (case ti_BadCard => k_is)
    (case ec_BadCard => k_is)
    (case ty_BadCard => k_is)
    (case ic_BadCard => k_is)
    (case ss_BadCard => first | rfl | k_is)
    (case n_BadCard_index => k_is)
    (case n_BadCard_what => k_is)
    (case up_BadCard_CardError => k_is)
    (case pg_Column => k_is)
    (case hd_Column => k_is)
    (case po_Column => k_is)
    (case sa_Column => k_is)
    (case i1_Column => k_is)
    (case i4_Column => k_is)
    (case ic_Column => k_is)
    (case ty_Column => k_is)
    (case it_str_Column => k_is)
    (case it_int_Column => k_is)
    (case it_bool_Column => k_is)
    (case it_NoneType_Column => k_is)
    (case it_list_Column => k_is)
    (case it_tuple_Column => k_is)
    (case it_dict_Column => k_is)
    (case ti_str_Column => k_is)
    (case ti_int_Column => k_is)
    (case ti_bool_Column => k_is)
    (case ti_list_Column => k_is)
    (case ti_tuple_Column => k_is)
    (case sub_Column => k_is)
    (case ne_Column => k_is)
    (case mk_Column => k_is)
    (case kc_Column => k_is)
    (case n_Column_word => k_is)
    (case n_Column_size => k_is)
    (case pg_Card => k_is)
    (case hd_Card => k_is)
    (case po_Card => k_is)
    (case sa_Card => k_is)
    (case i1_Card => k_is)
    (case i4_Card => k_is)
    (case ic_Card => k_is)
    (case ty_Card => k_is)
    (case it_str_Card => k_is)
    (case it_int_Card => k_is)
    (case it_bool_Card => k_is)
    (case it_NoneType_Card => k_is)
    (case it_list_Card => k_is)
    (case it_tuple_Card => k_is)
    (case it_dict_Card => k_is)
    (case ti_str_Card => k_is)
    (case ti_int_Card => k_is)
    (case ti_bool_Card => k_is)
    (case ti_list_Card => k_is)
    (case ti_tuple_Card => k_is)
    (case sub_Card => k_is)
    (case ne_Card => k_is)
    (case rd_Card => k_is)
    (case rg_Card => k_is)
    (case mk_Card => k_is)
    (case kc_Card => k_is)
    (case n_Card_columns => k_is)
    (case n_Card_size => k_is)
    (case n_Card_width => k_is)
    (case n_Card_words => k_is)
    (case n_Card_marks => k_is)
    (case kc_MOST_SIZE => k_is)
    (case kc_MOST_WIDTH => k_is)
    (case kc_MOST_DIGITS => k_is)
    (case kc_DIGITS => k_is)
    (case i2 => k_is)
    (case i3 => k_is)
    (case z_ValueError => k_is)
    (case z_abs => k_is)
    (case z_all => k_is)
    (case z_bool => k_is)
    (case z_classmethod => k_is)
    (case z_enumerate => k_is)
    (case z_int => k_is)
    (case z_isinstance => k_is)
    (case z_iter => k_is)
    (case z_len => k_is)
    (case z_list => k_is)
    (case z_property => k_is)
    (case z_range => k_is)
    (case z_sorted => k_is)
    (case z_staticmethod => k_is)
    (case z_str => k_is)
    (case z_tuple => k_is)
