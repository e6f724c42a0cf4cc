import PyProof.Rows.All
import Wide.All
import OpenK.AllK
import Wide.FinOn
import HandS.Deep
import HandS.Sort
import HandS.SortRule
import HandS.Defaults
import HandS.Gcd
import HandS.ExcIs
import HandS.TupAny
import PySem.Challenge.RW_slitstairs_k19_whole_layers_and_touching
import HandS.ForMost
import HandS.ForExc
import HandS.EndBits
import HandS.Wide
import HandS.Walk
import HandS.IsInst
import HandS.ExcInit
import HandS.ExcField
import HandS.OwnEq
import HandS.IterVal
import PyProof.FactsAll.str_ascii_iterator_1
import PyProof.FactsAll.tuple_iterator_1
import HandS.Style
import HandS.RaiseMore
import HandS.Property
import HandS.TryMany
import HandS.TryOnly
import HandS.ClsMeth
import HandS.MakeKwOnly
import HandS.FStr
import HandS.DictTup
import HandS.StrSplit
import HandS.Star
import HandS.MethStar
import HandS.TupLe
import KE.GoesMore
import KE.SortData
import HandS.Zip
import HandS.StrMore
import HandS.NoneIn
import HandS.Conv
import HandS.Flow
import HandS.GenList
import HandS.Small
import HandS.Strs
import HandS.SetBool
set_option Elab.async false
set_option Elab.async false
set_option linter.all false
set_option maxRecDepth 100000
set_option maxHeartbeats 4000000
namespace Sl
open PySem PySem.Spec PyProof.Rows L2 ItX
/-- the def st stands at f as the name x of the module -/
structure DefAt (K : PySem.W.Frag) (mg : Str → Option Value) (x : Str) (st : Stmt) (ps : List Str) (f : Addr) (fd : FuncData) : Prop where
  F : Fun K x x st f fd
  b : Binds K fd ps []
  g : mg x = some (.ref f)
theorem callD {X : Cx} {x : Str} {st : Stmt} {ps : List Str} {f : Addr} {fd : FuncData} {sp : Sp} {k j : Nat} {e : Expr} {es : List Expr} {p pos : Pos} {t : TA} (D : DefAt X.K X.mg x st ps f fd) (G : FnOk X.prog X.w X.K X.mg X.base CX0 k f fd ps sp) (hr : Room j X.A) (ha : PA X (e :: es) t)
    (hk : k ≤ j := by decide) (hg : Gl X x := by rfl) (hdb : (x == ("__debug__" : Str)) = false := by decide)
    (he : starEach (e :: es) X.env = (false, eval e X.env) :: starEach es X.env := by rfl) (hpl : (backTo pos (starEach es X.env)).any (·.1) = false := by rfl) :
    PE X (.Call (.Name x p) (e :: es) [] pos) (tCall sp [] E0 t) := pe_call G (hr.mono hk) hg D.g D.F.kp D.b .nil pass0 ha hdb he hpl
theorem cmul_l {i j : Int} (h : -18446744073709551616 < i ∧ i < 18446744073709551616) : CMul i j := .inl h
theorem cmul_r {i j : Int} (h : -18446744073709551616 < j ∧ j < 18446744073709551616) : CMul i j := .inr h
theorem cdiv {i j : Int} (h : 0 < j) (h2 : j < 1073741824) : CDiv i j := ⟨h, h2⟩
theorem same_but {a : Addr} {H H1 H2 : Hp} (s : Same H H1) (n : H a = none) (b : ∀ b o, b ≠ a → H1 b = some o → H2 b = some o) : Same H H2 := fun c o h => b c o (ne_of_none h n) (s c o h)
theorem same_new {H H1 : Hp} {a : Addr} {o : HO} (s : Same H H1) (n : H1 a = none) : Same H (upd H1 a o) := fun b u e => by
  rw [upd_ne (ne_of_none (s b u e) n)]
  exact s b u e
theorem same_free {H H' : Hp} {a : Addr} (s : Same H H') (n : H' a = none) : H a = none := s.free n
theorem cpow {i j : Int} (h1 : 0 ≤ j) (h2 : j ≤ 1000000) (h3 : i.natAbs < 2 ^ 64) : CPow i j := ⟨h1, h2, h3⟩
theorem szl {n : Nat} (h : n ≤ 1000) : n ≤ sizeLine := Nat.le_of_lt (small1000 h)
/-- the law's hand stands at a -/
def HandOk (H : Hp) (a : Addr) : Prop := ∃ (l : Addr) (cells : List Int) (pos pend tot : Int), H a = some (.lst [.ref l, .int pos, .int pend, .int tot]) ∧ H l = some (.lst (cells.map V.int)) ∧
  (0 ≤ pos ∧ pos ≤ 63) ∧ cells.length ≤ 63 ∧ (∀ c ∈ cells, 0 ≤ c) ∧ 0 ≤ pend ∧ (0 ≤ tot ∧ tot < 2147483629)
/-- all but a is as it was -/
def But (a : Addr) (H H' : Hp) : Prop := ∀ b o, b ≠ a → H b = some o → H' b = some o
theorem HandOk.mk {H H' : Hp} {a l : Addr} {cells : List Int} {pos pend tot : Int} (hal : a ≠ l) (el : H l = some (.lst (cells.map V.int))) (b : But a H H') (ea : H' a = some (.lst [.ref l, .int pos, .int pend, .int tot])) (hp : 0 ≤ pos ∧ pos ≤ 63) (hl : cells.length ≤ 63) (hc : ∀ c ∈ cells, 0 ≤ c) (hpe : 0 ≤ pend) (ht : 0 ≤ tot ∧ tot < 2147483629) : HandOk H' a :=
  ⟨l, cells, pos, pend, tot, ea, b l _ (Ne.symm hal) el, hp, hl, hc, hpe, ht⟩
theorem But.refl (a : Addr) (H : Hp) : But a H H := fun _ _ _ h => h
theorem But.trans {a : Addr} {H H1 H2 : Hp} (x : But a H H1) (y : But a H1 H2) : But a H H2 := fun b o n h => y b o n (x b o n h)
theorem But.upd {a : Addr} {H H1 : Hp} {o : HO} (x : But a H H1) : But a H (upd H1 a o) := fun b u n h => by
  rw [upd_ne n]
  exact x b u n h
def sOf (l : List Nat) : Str := ⟨l.toArray⟩
theorem sOf_inj {a b : List Nat} : sOf a = sOf b ↔ a = b := ⟨fun h => by
  have h2 := congrArg (fun s : Str => s.cps.toList) h
  simpa [sOf] using h2, fun h => by rw [h]⟩
theorem sOf_len (l : List Nat) : (sOf l).length = l.length := by simp [sOf, Str.length]
theorem sOf_app (a b : List Nat) : sOf a ++ sOf b = sOf (a ++ b) := TL.ext_tl (by rw [TL.tl_append]; simp [sOf, TL.tl])
theorem sOf_count (l : List Nat) (c : Nat) : Txt.count (sOf l) (sOf [c]) = (l.count c : Int) := by
  show Txt.count (sOf l) ⟨#[c]⟩ = _
  rw [PyProof.Rows.count_cnt]
  show PyProof.Rows.cnt c l = _
  induction l with
  | nil => rfl
  | cons x r ih =>
    rw [PyProof.Rows.cnt_cons, ih, List.count_cons]
    by_cases h : x = c
    · subst h; simp; omega
    · simp [h]
theorem pe_s {X : Cx} (l : List Nat) {x : Str} {j : Nat} {pos : Pos} (h : x = sOf l) : PE X (.Constant (.str x) j pos) (tC (.str (sOf l))) := by
  subst h
  exact pe_str
def rAddS : R2 := fun x y H Q => ∃ a b : List Nat, x = .str (sOf a) ∧ y = .str (sOf b) ∧ a.length + b.length ≤ 1000 ∧ Q (.str (sOf (a ++ b))) H
theorem op_addS {X : Cx} : OpR X (binaryOp .Add) rAddS := fun pins s σ H x y v u Q I rx ry ⟨a, b, ex, ey, hl, q⟩ =>
  op_add_str pins s σ H x y v u Q I rx ry ⟨_, _, ex, ey, by rw [sOf_len, sOf_len]; exact szl hl, by rw [sOf_app]; exact q⟩
def rLenS1 : List V → Hp → VK → Prop := fun xs H Q => ∃ l : List Nat, xs = [.str (sOf l)] ∧ l.length ≤ 1000 ∧ Q (.int l.length) H
theorem call_lenS {X : Cx} : CallR X (.builtin "len") rLenS1 := fun pins s σ H xs us Q I r ⟨l, e, hl, q⟩ =>
  call_len_str pins s σ H xs us Q I r ⟨_, e, by rw [sOf_len]; exact szl hl, by rw [sOf_len]; exact q⟩
def rCountS : V → List V → Hp → VK → Prop := fun x xs H Q => ∃ (l : List Nat) (c : Nat), x = .str (sOf l) ∧ xs = [.str (sOf [c])] ∧ Q (.int (l.count c : Nat)) H
theorem mt_countS {X : Cx} : MtR X "str.count" rCountS := fun pins s σ H x xs v us Q I rx rs ⟨l, c, ex, es, q⟩ =>
  mt_count pins s σ H x xs v us Q I rx rs ⟨_, _, ex, es, by rw [sOf_count]; exact q⟩
/-- a list's slice -/
def cutN (l : List Nat) (lo hi : Option Int) : List Nat := (l.drop (HT.sIx l.length 0 lo)).take (HT.sIx l.length l.length hi - HT.sIx l.length 0 lo)
theorem cutS_cutN (l : List Nat) (lo hi : Option Int) : cutS (sOf l) lo hi = sOf (cutN l lo hi) := by
  unfold cutS cutN
  rw [sOf_len]
  rfl
def rSlS2 : V → Option Int → Option Int → Hp → VK → Prop := fun x lo hi H Q => ∃ l : List Nat, x = .str (sOf l) ∧ l.length ≤ 1000 ∧ Q (.str (sOf (cutN l lo hi))) H
theorem sl_S {X : Cx} : SlR X rSlS2 := fun pins s σ H x v vl vu lo hi sl Q I rx hs pl pu ⟨l, ex, hl, q⟩ =>
  sl_str pins s σ H x v vl vu lo hi sl Q I rx hs pl pu ⟨_, ex, by rw [sOf_len]; exact szl hl, by rw [cutS_cutN]; exact q⟩
def rIxS2 : R2 := fun x y H Q => ∃ (l : List Nat) (i : Int) (c : Nat), x = .str (sOf l) ∧ y = .int i ∧ l.length ≤ 1000 ∧ atI l i = some c ∧ Q (.str (sOf [c])) H
theorem ix_S {X : Cx} : IxR X rIxS2 := fun value slice pins s σ H x y v u Q I rx ry ⟨l, i, c, ex, ey, hl, ha, q⟩ hs =>
  ix_str value slice pins s σ H x y v u Q I rx ry ⟨_, i, c, ex, ey, by rw [sOf_len]; exact szl hl, ha, q⟩ hs
theorem walk_S {l : List Nat} : Walk (Its (sOf l)) l.length (fun _ => True) (fun i H v H' => H' = H ∧ ∃ c, l[i]? = some c ∧ v = .str (sOf [c])) := by
  refine ⟨fun i H hi _ => ?_, fun H _ => ?_, fun i H x H' _ _ y => ?_⟩
  · show i < (sOf l).cps.size
    simpa [sOf] using hi
  · show (sOf l).cps.size ≤ l.length
    simp [sOf]
  · obtain ⟨h1, c, h2, h3⟩ := y
    refine ⟨h1, c, ?_, h3⟩
    simpa [sOf] using h2
/-- a word of size n: as many d (100) as o (111), never more o than d ahead -/
structure Good (l : List Nat) (n : Nat) : Prop where
  len : l.length = 2 * n
  cnt : l.count 100 = n
  ltr : ∀ c ∈ l, c = 100 ∨ c = 111
  ahead : ∀ k, k ≤ l.length → (l.take k).count 111 ≤ (l.take k).count 100
theorem ltr_count : ∀ {l : List Nat}, (∀ c ∈ l, c = 100 ∨ c = 111) → l.count 100 + l.count 111 = l.length
  | [], _ => rfl
  | x :: r, h => by
    have ih := ltr_count (l := r) fun c hc => h c (List.mem_cons_of_mem _ hc)
    rw [List.count_cons, List.count_cons, List.length_cons]
    rcases h x List.mem_cons_self with e | e <;> subst e <;> simp <;> omega
/-- what a row of steps has of a word while it is made -/
structure Part (l : List Nat) (n : Nat) : Prop where
  cnt : l.count 100 ≤ n
  ltr : ∀ c ∈ l, c = 100 ∨ c = 111
  ahead : ∀ k, k ≤ l.length → (l.take k).count 111 ≤ (l.take k).count 100
theorem Part.le {l : List Nat} {n : Nat} (p : Part l n) : l.count 111 ≤ l.count 100 := by
  have h := p.ahead l.length (Nat.le_refl _)
  rwa [List.take_length] at h
theorem Part.nil (n : Nat) : Part [] n := ⟨Nat.zero_le _, fun _ h => by simp at h, fun k _ => by simp⟩
theorem Part.snoc {l : List Nat} {n c : Nat} (p : Part l n) (h : (c = 100 ∧ l.count 100 < n) ∨ (c = 111 ∧ l.count 111 < l.count 100)) : Part (l ++ [c]) n := by
  refine ⟨?_, ?_, fun k hk => ?_⟩
  · rcases h with ⟨e, h⟩ | ⟨e, h⟩ <;> subst e <;> simp [List.count_append] <;> have := p.cnt <;> omega
  · intro x hx
    rcases List.mem_append.mp hx with hx | hx
    · exact p.ltr x hx
    · rw [List.mem_singleton] at hx
      rcases h with ⟨e, h⟩ | ⟨e, h⟩
      · exact .inl (hx.trans e)
      · exact .inr (hx.trans e)
  · by_cases hk2 : k ≤ l.length
    · rw [List.take_append_of_le_length hk2]
      exact p.ahead k hk2
    · have e : (l ++ [c]).take k = l ++ [c] := List.take_of_length_le (by rw [List.length_append] at hk ⊢; simp at hk ⊢; omega)
      rw [e, List.count_append, List.count_append]
      have := p.le
      rcases h with ⟨e, h⟩ | ⟨e, h⟩ <;> subst e <;> simp <;> omega
theorem Part.good {l : List Nat} {n : Nat} (p : Part l n) (h : l.length = 2 * n) : Good l n := by
  have h1 := p.le
  have h2 := ltr_count p.ltr
  have h3 := p.cnt
  exact ⟨h, by omega, p.ltr, p.ahead⟩
theorem cdivw {m : Int} (h : 0 < m) (h2 : m < 1152921504606846976) : CDivW 0 m := wide_div (i := 0) (b := 60) h (by omega) (by decide) (by decide)
theorem count_sign (c x : Nat) : [c].count x = if c = x then 1 else 0 := by
  rw [List.count_cons, List.count_nil]
  by_cases h : c = x
  · simp [h]
  · simp [h]
theorem cnt_d (l : List Nat) : (((l ++ [100]).count 100 : Nat) : Int) - ((l ++ [100]).count 111 : Nat) = (l.count 100 : Int) - l.count 111 + 1 := by
  rw [List.count_append, List.count_append, count_sign, count_sign]
  simp
  omega
theorem cnt_o (l : List Nat) : (((l ++ [111]).count 100 : Nat) : Int) - ((l ++ [111]).count 111 : Nat) = (l.count 100 : Int) - l.count 111 - 1 := by
  rw [List.count_append, List.count_append, count_sign, count_sign]
  simp
  omega
section
variable {X : Cx} {K : PySem.W.Frag}
theorem ix_listK (h : X.K = K) : IxR X (rIxL K) := h ▸ ix_list
theorem call_isiTK (h : X.K = K) : CallR X (.builtin "isinstance") (rIsiT K) := h ▸ call_isiT
theorem call_isiK' (h : X.K = K) : CallR X (.builtin "isinstance") (rIsi K) := h ▸ call_isi
def rLenQ (K : PySem.W.Frag) : List V → Hp → VK → Prop := fun xs H Q => ∃ p ys, xs = [.ref p] ∧ (SqL K H p ys ∨ SqT K H p ys) ∧ Q (.int ys.length) H
theorem call_lenQ (h : X.K = K) : CallR X (.builtin "len") (rLenQ K) := h ▸ call_len_seq
def rListQ (K : PySem.W.Frag) : List V → Hp → VK → Prop := fun xs H Q => ∃ p ys, xs = [.ref p] ∧ (SqL K H p ys ∨ SqT K H p ys) ∧ ∀ l, H l = none → Q (.ref l) (upd H l (.lst ys))
theorem call_listQ (h : X.K = K) : CallR X (.type "list") (rListQ K) := h ▸ call_list_of
end
theorem But.new {a p : Addr} {H H1 : Hp} {o : HO} (b : But a H H1) (n : H1 p = none) : But a H (L2.upd H1 p o) := fun c u nc h => by
  rw [upd_ne (ne_of_none (b c u nc h) n)]
  exact b c u nc h
/-- what an exception class with the one field holds in the written part -/
structure ExC (K : PySem.W.Frag) (mg : Str → Option Value) (x : Str) (C : Addr) (i : Addr) : Prop where
  g : mg x = some (.ref C)
  oex : OexC K C
  xf : XfC K C
  ini : PySem.W.findIn K (.ref C) "__init__" = some (some (.ref i))
  tI : PySem.W.typeIn K (.ref i) = some (.type "function")
  me : PySem.W.exmOne K (.ref C) (.ref C) = some true
/-- a method (or __init__) as it stands -/
structure MetAt (K : PySem.W.Frag) (x qual : Str) (st : Stmt) (ps : List Str) (f : Addr) (fd : FuncData) : Prop where
  F : Fun K x qual st f fd
  b : Binds K fd ps []
theorem upd_del_same {H1 H2 : Hp} {a d : Addr} {fs : List (Str × V)} (na : H1 a = none) (nd : H1 d = none) (k : ∀ b o, b ≠ a → H1 b = some o → H2 b = some o) : Same H1 (upd (del H2 a) d (.xd fs)) := fun b o e => by
  rw [upd_ne (ne_of_none e nd), del_ne (ne_of_none e na)]
  exact k b o (ne_of_none e na) e
section
variable {X : Cx} {pins : List (Addr × Obj)} {σ : L2.St} {H : Hp} {s : Shared} {CX : CXT} {n : Nat} {f C : Addr} {fd : FuncData} {ps : List Str} {sp : Sp} {E : XK} {vs : List V} {us : List Value} {Q : VK} {A1 : Around}
theorem val_ref {a : Addr} : L2.RelV (V.ref a) (Value.ref a) := rfl
/-- a method that the class has as a def -/
structure OwnM (K : PySem.W.Frag) (C : Addr) (m : Str) (f : Addr) : Prop where
  at_ : PySem.W.findIn K (.ref C) m = some (some (.ref f))
  fn : PySem.W.isFn K (.ref f) = true
/-- != where the class has an own == alone -/
structure NeC (K : PySem.W.Frag) (C : Addr) : Prop where
  at_ : PySem.W.findIn K (.ref C) "__ne__" = some (some (.builtin "object.__ne__"))
  up : PySem.W.mroIn K C (.type "object") = some true
end
section
variable {X : Cx} {CX : CXT} {n : Nat} {f C : Addr} {fd : FuncData} {ps : List Str} {sp : Sp} {E : L2.St → XK} {x : Str} {p pos : Pos} {e : Expr} {es : List Expr} {t : TA}
theorem makeS_run {E : XK} {Q : VK} {us : List Value} {vs : List V} {pins : List (Addr × Obj)} {σ : L2.St} {H : Hp} {s : Shared} (M : Mk X.K C f) (F : FnOk X.prog X.w X.K X.mg X.base CX n f fd ps sp) (room : Room (n + 1) X.A) (hb : L2.Binds X.K fd ps [])
    (esc : PassesAt CX X σ E) (J : L2.Inv X pins σ H s) (rs : Vals vs us) (h : ∀ y dy, H y = none → H dy = none → dy ≠ y → sp (.ref y :: vs) (L2.upd (L2.upd H dy (.own y)) y (.ins C dy [])) (fun v H2 => v = .non ∧ Q (.ref y) H2) E) :
    wpAny (model X.prog X.w) X.A (call (.ref C) us) (EP X pins σ Q) X.xe s := by
  generalize hn : s.heap.objs.size = k
  have wish := h (k + 1) k (J.hok.fresh (hn ▸ Nat.le_succ _)) (J.hok.fresh (hn ▸ Nat.le_refl _)) (Nat.ne_of_lt (Nat.lt_succ_self k))
  subst hn
  have J2 := L2.Inv.made (C := C) J
  have rs2 : Vals (V.ref (s.heap.objs.size + 1) :: vs) (Value.ref (s.heap.objs.size + 1) :: us) := .cons val_ref rs
  have many : (Value.ref (s.heap.objs.size + 1) :: us ++ []).length = ps.length := by
    rw [List.append_nil, ← F.len _ _ _ _ wish]
    exact rs2.length.symm
  have bd := hb _ (Value.ref (s.heap.objs.size + 1) :: us) J2.kIn many
  rw [List.append_nil] at bd
  refine wpAny_call (make_map (f := f) J.kIn M.makes M.init (beq_iff_eq.mp M.fn) (codeAny_mono (F.run _ X.stack _ _ ⟨_ :: us, []⟩ _ _ _ E (room.make C us []) (J2.env0.make C us []) bd rs2 wish) fun res s' post => ?_))
  cases res with
  | error er => exact esc pins _ _ er s' J2 post
  | ok fl =>
    cases fl with
    | ret u =>
      obtain ⟨v, H', J3, rv, ev, w⟩ := J2.after post
      subst ev
      exact ⟨rv, ⟨V.ref (s.heap.objs.size + 1), H', J3, val_ref, w⟩⟩
    | next => exact post.elim
    | brk => exact post.elim
    | cont => exact post.elim
def tMakeS (C : Addr) (sp : Sp) (E : L2.St → XK) (t : TA) : TE := fun σ H Q => t σ H fun vs H1 => ∀ y dy, H1 y = none → H1 dy = none → dy ≠ y → sp (.ref y :: vs) (L2.upd (L2.upd H1 dy (.own y)) y (.ins C dy [])) (fun v H2 => v = .non ∧ Q (.ref y) H2) (E σ)
theorem pe_makeS (M : Mk X.K C f) (F : FnOk X.prog X.w X.K X.mg X.base CX n f fd ps sp) (room : Room (n + 1) X.A) (hg : Gl X x) (hm : X.mg x = some (.ref C)) (hb : L2.Binds X.K fd ps []) (esc : ∀ σ, PassesAt CX X σ (E σ)) (ha : PA X (e :: es) t)
    (hdb : (x == ("__debug__" : Str)) = false := by decide) (he : starEach (e :: es) X.env = (false, eval e X.env) :: starEach es X.env := by rfl) (hpl : (backTo pos (starEach es X.env)).any (·.1) = false := by rfl) : PE X (.Call (.Name x p) (e :: es) [] pos) (tMakeS C sp E t) := by
  refine ⟨fun pins s σ H Q J h => wpAny_Call_Name_kw (ld_glob J hg hm ?_ hdb)⟩
  exact PySem.W.callWith_K (h₀ := X.base) J.ok.mod.kin M.kp (thn (ha.run pos pins s σ H _ J h) fun us s1 ⟨vs, H1, J1, r, q⟩ => ⟨J1.kIn, makeS_run M F room hb (esc σ) J1 r q⟩) he hpl
end
theorem pe_fldK {X : Cx} {K : PySem.W.Frag} {e : Expr} {fld : Str} {pos : Pos} {ta : TE} (hK : X.K = K) (he : PE X e ta) (hb : attributeBase e fld X.env (eval e X.env) = eval e X.env) : PE X (.Attribute e fld pos) (tFld K ta fld) := hK ▸ pe_fld he hb
def tMethW (C : Addr) (m : Str) (sp : Sp) (E : L2.St → XK) (ta : TE) (t : TA) : TE := fun σ H Q => ta σ H fun y H1 => ∃ b dy gs, y = .ref b ∧ H1 b = some (.ins C dy gs) ∧ gs.lookup m = none ∧ t σ H1 fun ws H2 => sp (y :: ws) H2 Q (E σ)
section
variable {X : Cx} {CX : CXT} {n : Nat} {f C : Addr} {fd : FuncData} {ps : List Str} {sp : Sp} {E : L2.St → XK} {m : Str} {apos pos : Pos} {o e : Expr} {es : List Expr} {ta : TE} {t : TA}
theorem pe_methW {pl : Sem Bool} (obj : PE X o ta) (c : Cls X.K C) (M : Meth X.K C m f) (F : FnOk X.prog X.w X.K X.mg X.base CX n f fd ps sp) (room : Room n X.A) (hb : L2.Binds X.K fd ps []) (esc : ∀ σ, PassesAt CX X σ (E σ)) (ha : PA X (e :: es) t)
    (hst : starEach (e :: es) X.env = (false, eval e X.env) :: starEach es X.env := by rfl) (hpl : (backTo pos (starEach es X.env)).any (·.1) = false := by rfl)
    (ht : eval (.Call (.Attribute o m apos) (e :: es) [] pos) X.env = (do let y ← eval o X.env; standAt apos.atName; let (g, first) ← holding [y] (getMethod y m pl); callWith pos g first (backTo pos (starEach (e :: es) X.env)) (backToKw pos (keywordEach [] X.env))) := by rfl) :
    PE X (.Call (.Attribute o m apos) (e :: es) [] pos) (tMethW C m sp E ta t) := by
  refine ⟨fun pins s σ H Q J h => PySem.W.methodCall_KW (pl := pl) (thn (obj.run pins s σ H _ J h) fun u s1 ⟨y, H1, J1, ru, b, dy, gs, ey, eb, lk, q⟩ => ?_) ht⟩
  subst ey
  cases ru
  refine getmeth_ok J1 eb c M lk (PySem.W.callWith_K (first := [.ref b]) (h₀ := X.base) J.ok.mod.kin M.kp (thn (ha.run pos pins s1 σ H1 _ J1 q) fun us s2 ⟨ws, H2, J2, r, q2⟩ => ⟨J2.kIn, ?_⟩) hst hpl)
  exact run_fnS (us := .ref b :: us) (vs := .ref b :: ws) F room hb (esc σ) J2 (.cons val_ref r) q2
end
theorem strOk_of {l : List Nat} (h : ∀ c ∈ l, c < 1114112) : PyData.strOk (sOf l) = true := by
  unfold PyData.strOk sOf
  simpa using h
theorem cls_in {K : PySem.W.Frag} {C : Addr} {t : Value} {b : Bool} (h2 : PySem.W.isClsIn K C = true) (h3 : PySem.W.typeIn K (.ref C) = some (.type "type")) (h4 : PySem.W.subIn K t (.ref C) = some b) : PySem.W.kitCls K t (.ref C) = some b := by
  have e : (PySem.W.clsIn K C).isSome = true := h2
  unfold PySem.W.kitCls
  simp only []
  rw [e, h3, h4]
  rfl
theorem exm_of {K : PySem.W.Frag} {S B : Addr} (h1 : PySem.W.subIn K (.ref B) (.type "BaseException") = some true) (h2 : PySem.W.isClsIn K B = true) (h3 : PySem.W.typeIn K (.ref B) = some (.type "type")) (h4 : PySem.W.subIn K (.ref S) (.ref B) = some true) : PySem.W.exmOne K (.ref S) (.ref B) = some true := by
  unfold PySem.W.exmOne
  rw [h1, cls_in h2 h3 h4]
  rfl
theorem kit_self {K : PySem.W.Frag} {t : Value} : PySem.W.kitOne K t t = some true := by
  unfold PySem.W.kitOne
  rw [if_pos (by simp)]
theorem kit_own {K : PySem.W.Frag} {C : Addr} {T : String} {b : Bool} (h2 : PySem.W.isClsIn K C = true) (h3 : PySem.W.typeIn K (.ref C) = some (.type "type")) (h4 : PySem.W.subIn K (.type T) (.ref C) = some b) : PySem.W.kitOne K (.type T) (.ref C) = some b := by
  unfold PySem.W.kitOne
  rw [if_neg (by simp), cls_in h2 h3 h4]
theorem kit_kind {K : PySem.W.Frag} {C : Addr} {T : String} {b : Bool} (hm : PySem.W.kitMeta T = true) (h4 : PySem.W.subIn K (.ref C) (.type T) = some b) : PySem.W.kitOne K (.ref C) (.type T) = some b := by
  unfold PySem.W.kitOne
  rw [if_neg (by simp)]
  unfold PySem.W.kitCls
  simp only []
  rw [if_pos hm, h4]
theorem any_hd {K : PySem.W.Frag} {t c : Value} {r : List Value} (h : PySem.W.kitOne K t c = some true) : PySem.W.kitAny K t (c :: r) = some true := by
  unfold PySem.W.kitAny
  rw [h]
theorem any_tl {K : PySem.W.Frag} {t c : Value} {r : List Value} {b : Bool} (h : PySem.W.kitOne K t c = some false) (k : PySem.W.kitAny K t r = some b) : PySem.W.kitAny K t (c :: r) = some b := by
  unfold PySem.W.kitAny
  rw [h]
  exact k
theorem any_nil {K : PySem.W.Frag} {t : Value} : PySem.W.kitAny K t [] = some false := rfl
def ht (l : List Nat) (k : Nat) : Int := ((l.take k).count 100 : Int) - (l.take k).count 111
def vI (xs : List Int) : List V := xs.map V.int
set_option maxHeartbeats 1000000 in
theorem enum_newT (l : Addr) (items : Array Value) (n : Nat) (dct : Option Addr) (sl : Array (Option Value)) :
    Meets (PySem.Builtin.«enumerate.__new__» ⟨[.type "enumerate", .ref l], []⟩) (fun _ R s => s.heap.get? l = some { cls := .type "tuple", dict := dct, data := .seq items n, slots := sl } ∧
      R (.ok (.ret (.ref (s.heap.push { cls := .type "tuple_iterator", data := .fields #[.ref l, .int 0 0] }).objs.size))) { s with heap := (s.heap.push { cls := .type "tuple_iterator", data := .fields #[.ref l, .int 0 0] }).push { cls := .type "enumerate", data := .fields #[.none, .bool false, .ref s.heap.objs.size, rawInt 0, .none, .none] } }) :=
  .of_wp fun prog w A R s h => by
    obtain ⟨hp, g, dr, tk, os⟩ := s
    obtain ⟨there, post⟩ := h
    have hsub := sub_enumerate
    have hT : Heap.IsTuple (Shared.heap ⟨hp, g, dr, tk, os⟩) l items := ⟨_, there, rfl, n, rfl⟩
    wp_walk using AutoSeq1.wpAny_loadPart' there
    refine wpAny_stack_any fun st => wpAny_pure ?_
    split
    · rename_i c _ _ _ _ _
      cases (c == Value.type "enumerate")
      · wp_walk using AutoSeq1.wpAny_loadPart' there, wpAny_pyIter_tuple hT
        exact ⟨_, rfl, post⟩
      · wp_walk using AutoSeq1.wpAny_loadPart' there, wpAny_pyIter_tuple hT
        exact ⟨_, rfl, post⟩
    · wp_walk using AutoSeq1.wpAny_loadPart' there, wpAny_pyIter_tuple hT
      exact ⟨_, rfl, post⟩
theorem call_enumT {prog : Program} {w : World} {A : Around} {E : Value → Shared → Prop} {s : Shared} {l : Addr} {items : Array Value} {Q : Value → Shared → Prop} (hT : s.heap.IsTuple l items)
    (h : ∀ h', IsEnum h' (s.heap.objs.size + 1) s.heap.objs.size 0 .none → h'.IsTupleIter s.heap.objs.size l 0 → (∀ b o, s.heap.get? b = some o → h'.get? b = some o) → Q (.ref (s.heap.objs.size + 1)) { s with heap := h' }) :
    wpAny (model prog w) A (call (.type "enumerate") [.ref l]) Q E s := by
  obtain ⟨⟨c, dct, dt, sl⟩, there, hc, n, hd⟩ := hT
  cases (show c = .type "tuple" from hc)
  cases (show dt = .seq items n from hd)
  refine callType_new F.called_enumerate (by decide) (F.typeCall_enumerate_1 _) (F.newCall_enumerate_1 _) (fun obj => F.args_object_init_2 obj _) F.entry_enumerate_new (enum_newT l items n dct sl) ⟨there, ?_⟩
  have z1 : (s.heap.push { cls := .type "tuple_iterator", data := .fields #[.ref l, .int 0 0] }).objs.size = s.heap.objs.size + 1 := Heap.size_push ..
  show _ ∧ _
  rw [z1]
  have at2 := Heap.get?_push_size (s.heap.push { cls := .type "tuple_iterator", data := .fields #[.ref l, .int 0 0] }) (o := { cls := .type "enumerate", data := .fields #[.none, .bool false, .ref s.heap.objs.size, rawInt 0, .none, .none] }) rfl
  rw [z1] at at2
  exact ⟨⟨_, at2, rfl⟩, h _ at2 ⟨_, Heap.get?_push_of_some _ (Heap.get?_push_size _ rfl), rfl, rfl⟩ fun b o x => Heap.get?_push_of_some _ (Heap.get?_push_of_some _ x)⟩
/-- the tuple at a as it stands at each turn, each item in a new pair -/
def IteT (K : PySem.W.Frag) (a : Addr) : It :=
  ⟨fun i H => ∃ (xs : List V) (x : V), SqT K H a xs ∧ xs[i]? = some x, fun i H v H' => ∃ T x, v = .ref T ∧ H T = none ∧ H' = L2.upd H T (.tup [.int (i : Nat), x]) ∧ (∀ ys, SqT K H a ys → ys[i]? = some x), fun i H => ∃ xs : List V, SqT K H a xs ∧ xs.length ≤ i⟩
theorem tup_ne {h : Heap} {l it : Addr} {xs : Array Value} {n : Nat} (p : h.IsTuple l xs) (q : h.IsTupleIter it l n) : l ≠ it := fun z => by
  obtain ⟨o, e, c, _⟩ := p
  obtain ⟨o2, e2, c2, _⟩ := q
  rw [z, e2] at e
  cases e
  exact absurd (Value.type.inj (c2.symm.trans c)) (by decide)
theorem tup_ne2 {h : Heap} {l en it : Addr} {xs : Array Value} {i : Int} {old : Value} (p : h.IsTuple l xs) (q : IsEnum h en it i old) : en ≠ l := fun z => by
  obtain ⟨o, e, c, _⟩ := p
  have q' : h.get? en = some _ := q
  rw [z, e] at q'
  cases q'
  exact absurd (Value.type.inj c) (by decide)
theorem turn_enumT {P : Program} {w : World} {K : PySem.W.Frag} {elts : List Expr} {kk : Nat} {tpos : Pos} (a e it : Addr) :
    Turn P w K (.Tuple elts kk tpos) (IteT K a) [e, it] e (fun i h => (∃ old, IsEnum h e it ((i : Nat) : Int) old) ∧ h.IsTupleIter it a i ∧ e ≠ it) where
  mem := by simp
  obj := fun i h ⟨⟨old, he⟩, ⟨o, ho, hc, hd⟩, _⟩ b hb => by
    rcases (show b = e ∨ b = it by simpa using hb) with z | z
    · rw [z]
      exact ⟨_, he, fun v q => nomatch q⟩
    · rw [z]
      exact ⟨o, ho, fun v q => by rw [hd] at q; cases q⟩
  keep := fun i h h' ⟨⟨old, he⟩, hi, ne⟩ k => ⟨⟨old, k e (by simp) _ he⟩, hi.at fun o q => k it (by simp) o q, ne⟩
  item := by
    intro X hP hw hK calm i pins s σ H E I hf ⟨⟨old, he⟩, hit, ne⟩ ⟨xs, x, hq, hx⟩
    subst hP hw hK
    obtain ⟨its, rv, p, hz⟩ := I.tuple hq
    have pt : s.heap.IsTuple a its.toArray := p
    obtain ⟨u, hu, ru⟩ := rv.get hx
    have hlt : i < its.toArray.size := by
      have := List.getElem?_eq_some_iff.mp hu
      obtain ⟨h1, _⟩ := this
      simpa using h1
    have el := Heap.lt_size he
    have il : it < s.heap.objs.size := by obtain ⟨_, q, _⟩ := hit; exact Heap.lt_size q
    have D := PySem.Draws.tuple (prog := X.prog) (w := X.w) (A := X.A.in1) (I.ok.hd calm) it a (tup_ne pt hit) its.toArray
    refine wpAny_pyNext_enum_itemD D he ⟨hit, pt⟩ hlt ne (by simp [ne, tup_ne2 pt he]) fun v h' tk hv ho ⟨hit', pt'⟩ hT hsz hk => ?_
    obtain rfl : u = v := by
      rw [List.getElem?_toArray, hu] at hv
      exact Option.some.inj hv
    refine ⟨_, rfl, wpAny_letOwnedTupleGo_enum (s := { s with heap := h', toks := tk + 1 }) ho fun h2 he2 sb => ?_⟩
    have hT2 : h2.get? s.heap.objs.size = some { cls := .type "tuple", data := .seq #[.int i tk, u] } := (sb.2 _ (Nat.ne_of_gt el)).trans hT
    have new : ObjOk X.prog X.w (L2.upd H s.heap.objs.size (.tup [.int (i : Nat), x])) h2 s.heap.objs.size (.tup [.int (i : Nat), x]) :=
      ⟨by show 2 ≤ sizeLine; decide, [.int i tk, u], .cons ⟨_, rfl⟩ (.cons ru .nil), ⟨_, hT2, rfl, _, rfl⟩⟩
    have I1 : L2.Inv X pins σ (L2.upd H s.heap.objs.size (.tup [.int (i : Nat), x])) { s with heap := h2, toks := tk + 1 } :=
      I.turnedNew (ch := [e, it]) (fun b ob hb q => (sb.2 b (fun z => hb (by simp [z]))).trans (hk b ob (fun z => hb (by simp [z])) (fun z => hb (by simp [z])) q)) hf (Nat.le_refl _) new
    refine ⟨.ref s.heap.objs.size, _, I1, rfl, ⟨_, x, rfl, I.hok.fresh (Nat.le_refl _), rfl, fun ys hy => by rw [I.tuple_inj hy hq]; exact hx⟩, ⟨⟨u, ?_⟩, hit'.at fun o q => (sb.2 it (Ne.symm ne)).trans q, ne⟩, fun b hb => ?_⟩
    · rw [show ((i + 1 : Nat) : Int) = (i : Int) + 1 by omega]
      exact he2
    · have lt : b < s.heap.objs.size := by
        rcases (show b = e ∨ b = it by simpa using hb) with z | z
        · exact z ▸ el
        · exact z ▸ il
      exact (upd_ne (Nat.ne_of_lt lt)).trans (hf b hb).1
  done := by
    intro X hP hw hK calm i pins s σ H E I hf ⟨⟨old, he⟩, hit, ne⟩ ⟨xs, hq, hx⟩
    subst hP hw hK
    obtain ⟨its, rv, p, hz⟩ := I.tuple hq
    have pt : s.heap.IsTuple a its.toArray := p
    obtain ⟨f0, f1, f2, f3, f4, f5⟩ := hf it (by simp)
    have many := rv.length
    have eT : s.TypeIs (.ref e) "enumerate" := ⟨_, he, rfl⟩
    unfold pyNext
    refine wpAny_bind (wpAny_attempt (wpAny_callSpecial?_slot (name := Str.ofString "__next__") eT F.slot_enumerate_next (wpAny_call_entry F.slot_enumerate_next eT F.entry_enumerate_next ?_ (F.args_enumerate_next_1 _))))
    show wpAny _ _ (field (.ref e) 2 >>= _) _ _ _
    refine wpAny_bind (wpAny_field he rfl (x := .ref it) rfl (wpAny_bind (PySem.wpAny_nextOf_tuple_end (I.ok.hd calm) hit pt (by simp; omega) fun h' er eb ⟨o, ho, hc⟩ => ?_)))
    exact wpAny_bind (wpAny_isInstance (T := "StopIteration") (b := true) ⟨o, ho, hc⟩ isSubtype_stop (wpAny_pure ⟨rfl, I.turned (t' := s.toks) (fun b o hb q => eb b o hb q) f0 f1 f3 f4 f5⟩))
  self := fun A i s Q E ⟨⟨_, he⟩, _⟩ h => wpAny_pyIter_enum he h
/-- enumerate(e), e a list or a tuple -/
def iEnumQ (K : PySem.W.Frag) (ta : TA) : TI := fun σ H R => ta σ H fun vs H1 => ∃ a xs, vs = [.ref a] ∧ ((SqL K H1 a xs ∧ R (Ite K a) H1) ∨ (SqT K H1 a xs ∧ R (IteT K a) H1))
theorem pi_enumQ {X : Cx} {K : PySem.W.Frag} {e : Expr} {ta : TA} {p pos tpos : Pos} {elts : List Expr} {kk : Nat} (hK : X.K = K) (hg : Gl X "enumerate") (hm : X.mg "enumerate" = none) (ha : PA X [e] ta) (hs : starEach [e] X.env = [(false, eval e X.env)] := by rfl) :
    PI X (.Tuple elts kk tpos) (.Call (.Name "enumerate" p) [e] [] pos) (iEnumQ K ta) := by
  subst hK
  refine ⟨fun pins s σ H R I h => Call_ (ld_blt I hg hm boot_enumerate (PyProof.Rows.callWith_type1 (thn (ha.run pos pins s σ H _ I h) fun us s1 ⟨vs, H1, I1, r1, a, xs, ex, q⟩ => ?_) hs rfl))⟩
  subst ex
  obtain ⟨u, rfl, ru⟩ := r1.one
  cases ru
  have foot : ∀ b, b ∈ [s1.heap.objs.size + 1, s1.heap.objs.size] → FpOk X pins H1 b := fun b hb => by
    have le : s1.heap.objs.size ≤ b := by
      rcases (show b = s1.heap.objs.size + 1 ∨ b = s1.heap.objs.size by simpa using hb) with z | z
      · exact z ▸ Nat.le_succ _
      · exact z ▸ Nat.le_refl _
    exact I1.fpOk le (I1.hok.fresh le)
  rcases q with ⟨hq, q⟩ | ⟨hq, q⟩
  · obtain ⟨its, rv, p', hz⟩ := I1.list hq
    exact call_enumerate_list p'.isList fun h' he hit hsz hk => wpAny_pyIter_enum he ⟨_, _, _, _, H1, rfl, I1.kept (t' := s1.toks) hk, turn_enum a (s1.heap.objs.size + 1) s1.heap.objs.size, ⟨⟨.none, he⟩, hit, Nat.succ_ne_self _⟩, foot, q⟩
  · obtain ⟨its, rv, p', hz⟩ := I1.tuple hq
    exact call_enumT (show s1.heap.IsTuple a its.toArray from p') fun h' he hit hk => wpAny_pyIter_enum he ⟨_, _, _, _, H1, rfl, I1.kept (t' := s1.toks) hk, turn_enumT a (s1.heap.objs.size + 1) s1.heap.objs.size, ⟨⟨.none, he⟩, hit, Nat.succ_ne_self _⟩, foot, q⟩
theorem walk_enumT {K : PySem.W.Frag} {a : Addr} {xs : List V} : Walk (IteT K a) xs.length (fun H => SqT K H a xs) (YPair (fun i => some (.int (i : Nat))) (fun i => xs[i]?)) := by
  refine ⟨fun i _ hi q => ⟨xs, xs[i], q, by simp [hi]⟩, fun _ q => ⟨xs, q, Nat.le_refl _⟩, fun i H v H' _ q y => ?_⟩
  obtain ⟨T, x, e1, e2, e3, e4⟩ := y
  exact ⟨T, .int (i : Nat), x, e1, e2, e3, rfl, e4 xs q⟩
/-- for x in e, e a list or a tuple -/
def iSeqQ (K : PySem.W.Frag) (te : TE) : TI := fun σ H R => te σ H fun v H1 => ∃ a xs, v = .ref a ∧ ((SqL K H1 a xs ∧ R (Itl K a) H1) ∨ (SqT K H1 a xs ∧ R (Itt K a) H1))
theorem pi_seqQ {X : Cx} {K : PySem.W.Frag} {tg e : Expr} {te : TE} (hK : X.K = K) (he : PE X e te) : PI X tg e (iSeqQ K te) := by
  subst hK
  refine ⟨fun pins s σ H R I h => thn (he.run pins s σ H _ I h) fun u s1 ⟨y, H1, I1, ru, a, xs, ey, q⟩ => ?_⟩
  subst ey
  cases ru
  have foot : ∀ b, b ∈ [s1.heap.objs.size] → FpOk X pins H1 b := fun b hb => by
    have z : b = s1.heap.objs.size := by simpa using hb
    rw [z]
    exact I1.fpOk (Nat.le_refl _) (I1.hok.fresh (Nat.le_refl _))
  rcases q with ⟨hq, q⟩ | ⟨hq, q⟩
  · obtain ⟨its, rv, p, hz⟩ := I1.list hq
    exact wpAny_pyIter_list p.isList ⟨_, _, _, _, H1, rfl, I1.kept (t' := s1.toks) fun b o k => Heap.get?_push_of_some _ k, turn_list a _, ⟨_, Heap.get?_push_size _ rfl, rfl, rfl⟩, foot, q⟩
  · obtain ⟨its, rv, p, hz⟩ := I1.tuple hq
    exact wpAny_pyIter_tuple (show s1.heap.IsTuple a its.toArray from p) ⟨_, _, _, _, H1, rfl, I1.kept (t' := s1.toks) fun b o k => Heap.get?_push_of_some _ k, turn_tuple a _, ⟨_, Heap.get?_push_size _ rfl, rfl, rfl⟩, foot, q⟩
section
variable {K : PySem.W.Frag}
/-- the making of an exception with one field -/
def spE1 (K : PySem.W.Frag) (f : Str) : Sp := fun vs H Q _ => ∃ (a C : Addr) (v : V), vs = [.ref a, v] ∧ OexC K C ∧ PySem.W.findIn K (.ref C) f = some none ∧ H a = some (exo a C none) ∧
  ∀ dx, H dx = none → dx ≠ a → Q .non (upd (upd H dx (exd dx [(f, v)])) a (exo a C (some dx)))
/-- what raise C(v) asks, by its wish -/
theorem made1 {C : Addr} {f : Str} {v : V} {H : Hp} {Q : XK} (T : OexC K C) (hn : PySem.W.findIn K (.ref C) f = some none) (q : ∀ d H', Same H H' → H d = none → H' d = some (.xd [(f, v)]) → Q (.ref C) (some d) H') :
    [v].length ≤ 1000 ∧ ∀ a, H a = none → spE1 K f (.ref a :: ([v] ++ [])) (upd H a (exo a C none)) (fun v H2 => v = .non ∧ ∃ (d : Addr) (fs : List (Str × V)), H2 a = some (exo a C (some d)) ∧ H2 d = some (exd d fs) ∧ H d = none ∧ Q (.ref C) (some d) (upd (del H2 a) d (.xd fs))) (fun _ _ _ => False) := by
  refine ⟨(by show 1 ≤ 1000; decide), fun a na => ⟨a, C, v, rfl, T, hn, upd_same, fun dx n ne => ⟨rfl, dx, [(f, v)], upd_same, ?_, ?_, ?_⟩⟩⟩
  · rw [upd_ne ne, upd_same]
  · rw [upd_ne ne] at n
    exact n
  · rw [upd_ne ne] at n
    refine q dx _ (upd_del_same na n fun b o hb e => ?_) n upd_same
    rw [upd_ne hb, upd_ne (ne_of_none e n), upd_ne hb]
    exact e
/-- the making of an exception with two fields, f stored ahead of g -/
def spE2 (K : PySem.W.Frag) (f g : Str) : Sp := fun vs H Q _ => ∃ (a C : Addr) (v u : V), vs = [.ref a, v, u] ∧ OexC K C ∧ PySem.W.findIn K (.ref C) f = some none ∧ PySem.W.findIn K (.ref C) g = some none ∧ H a = some (exo a C none) ∧
  ∀ dx, H dx = none → dx ≠ a → Q .non (upd (upd (upd H dx (exd dx [(f, v)])) a (exo a C (some dx))) dx (exd dx [(g, u), (f, v)]))
theorem made2 {C : Addr} {f g : Str} {v u : V} {H : Hp} {Q : XK} (T : OexC K C) (hf : PySem.W.findIn K (.ref C) f = some none) (hg : PySem.W.findIn K (.ref C) g = some none) (q : ∀ d H', Same H H' → H d = none → H' d = some (.xd [(g, u), (f, v)]) → Q (.ref C) (some d) H') :
    [v, u].length ≤ 1000 ∧ ∀ a, H a = none → spE2 K f g (.ref a :: ([v, u] ++ [])) (upd H a (exo a C none)) (fun v H2 => v = .non ∧ ∃ (d : Addr) (fs : List (Str × V)), H2 a = some (exo a C (some d)) ∧ H2 d = some (exd d fs) ∧ H d = none ∧ Q (.ref C) (some d) (upd (del H2 a) d (.xd fs))) (fun _ _ _ => False) := by
  refine ⟨(by show 2 ≤ 1000; decide), fun a na => ⟨a, C, v, u, rfl, T, hf, hg, upd_same, fun dx n ne => ?_⟩⟩
  have n' : H dx = none := by
    rw [upd_ne ne] at n
    exact n
  refine ⟨rfl, dx, [(g, u), (f, v)], ?_, upd_same, n', q dx _ (upd_del_same na n' fun b o hb e => ?_) n' upd_same⟩
  · rw [upd_ne (Ne.symm ne), upd_same]
  · rw [upd_ne (ne_of_none e n'), upd_ne hb, upd_ne (ne_of_none e n'), upd_ne hb]
    exact e
end
theorem sqt_mono {K : PySem.W.Frag} {H H' : Hp} {a : Addr} {xs : List V} (e : Same H H') (h : SqT K H a xs) : SqT K H' a xs := by
  rcases h with (h | ⟨o, h⟩) | h
  · exact .inl (.inl (e _ _ h))
  · exact .inl (.inr ⟨o, e _ _ h⟩)
  · exact .inr h
mutual
theorem dp_mono {K : PySem.W.Frag} {H H' : Hp} (s : Same H H') : ∀ (d : PyData) (v : V), Dp K H v d → Dp K H' v d
  | .none, _, h => by cases h; exact .non
  | .bool b, _, h => by cases h; exact .bl b
  | .int i, _, h => by cases h; exact .int i
  | .str x, _, h => by cases h; exact .str x
  | .list ds, _, h => by
    cases h with
    | lst hs ha => exact .lst (s.seq hs) (dpa_mono s ds _ ha)
  | .tuple ds, _, h => by
    cases h with
    | tup hs ha => exact .tup (sqt_mono s hs) (dpa_mono s ds _ ha)
  | .dict _, _, h => by cases h
theorem dpa_mono {K : PySem.W.Frag} {H H' : Hp} (s : Same H H') : ∀ (ds : List PyData) (vs : List V), DpAll K H vs ds → DpAll K H' vs ds
  | [], _, h => by cases h; exact .nil
  | d :: ds, _, h => by
    cases h with
    | cons h1 h2 => exact .cons (dp_mono s d _ h1) (dpa_mono s ds _ h2)
end
theorem dpa_snoc {K : PySem.W.Frag} {H : Hp} {v : V} {d : PyData} : ∀ {ds : List PyData} {vs : List V}, DpAll K H vs ds → Dp K H v d → DpAll K H (vs ++ [v]) (ds ++ [d])
  | [], _, h, k => by cases h; exact .cons k .nil
  | e :: ds, _, h, k => by
    cases h with
    | cons h1 h2 => exact .cons h1 (dpa_snoc h2 k)
/-- the list at D (new since H) holds xs, data ds that stand without it -/
structure Gh (K : PySem.W.Frag) (H : Hp) (D : Addr) (H' : Hp) (xs : List V) (ds : List PyData) : Prop where
  ex : ∃ G : Hp, Same H G ∧ G D = none ∧ Same G H' ∧ DpAll K G xs ds
  here : H' D = some (.lst xs)
theorem Gh.start {K : PySem.W.Frag} {H : Hp} {D : Addr} (n : H D = none) : Gh K H D (upd H D (.lst [])) [] [] := ⟨⟨H, Same.refl H, n, same_new (Same.refl H) n, .nil⟩, upd_same⟩
theorem Gh.data {K : PySem.W.Frag} {H H' : Hp} {D : Addr} {xs : List V} {ds : List PyData} (g : Gh K H D H' xs ds) : Dp K H' (.ref D) (.list ds) := let ⟨_, _, _, b, c⟩ := g.ex; .lst (SqL.of g.here) (dpa_mono b _ _ c)
theorem Gh.add {K : PySem.W.Frag} {H H' : Hp} {D : Addr} {xs : List V} {ds : List PyData} {v : V} {d : PyData} (g : Gh K H D H' xs ds) (k : ∀ G : Hp, Dp K G v d) : Gh K H D (upd H' D (.lst (xs ++ [v]))) (xs ++ [v]) (ds ++ [d]) := by
  obtain ⟨G, a, n, b, c⟩ := g.ex
  refine ⟨⟨G, a, n, fun z o e => ?_, dpa_snoc c (k G)⟩, upd_same⟩
  rw [upd_ne (ne_of_none e n)]
  exact b z o e
theorem pg_tupK {X : Cx} {K : PySem.W.Frag} {pos : Pos} {es : List Expr} {k : Nat} {t : TGs} {n : Nat} (hK : X.K = K) (hc : X.calm = true) (h : PGs X es t) (h1 : (assignEach es X.env).length = n := by rfl)
    (h2 : List.findIdx? (fun x => x.fst) (assignEach es X.env) = none := by rfl) : PG X (Expr.Tuple es k pos) (gTup K n t) := hK ▸ pg_tup hc h h1 h2
theorem Gh.all {K : PySem.W.Frag} {H H' : Hp} {D : Addr} {xs : List V} {ds : List PyData} (g : Gh K H D H' xs ds) : DpAll K H' xs ds := let ⟨_, _, _, b, c⟩ := g.ex; dpa_mono b _ _ c
/-- a new tuple whose data are known -/
theorem Gh.tup {K : PySem.W.Frag} {H H' : Hp} {D p : Addr} {xs : List V} {ds : List PyData} (g : Gh K H D H' xs ds) (n : H' p = none) : DpAll K (upd H' p (.tup xs)) xs ds := let ⟨_, _, _, b, c⟩ := g.ex; dpa_mono (b.trans (same_new (Same.refl _) n)) _ _ c
def okD : Nat → PyData → Bool
  | _, .none => true
  | _, .bool _ => true
  | _, .int _ => true
  | _, .str s => PyData.strOk s
  | n + 1, .list ds => ds.all (okD n)
  | n + 1, .tuple ds => ds.all (okD n)
  | _, _ => false
theorem okA_all {n : Nat} : ∀ ds : List PyData, (∀ d ∈ ds, d.canLay0 = true ∧ d.depth ≤ n ∧ d.eqv d = true) → PyData.canLayAll0 ds = true ∧ PyData.depthAll ds ≤ n ∧ PyData.eqvAll ds ds = true
  | [], _ => ⟨rfl, Nat.zero_le _, rfl⟩
  | d :: ds, h => by
    obtain ⟨a, b, c⟩ := okA_all ds fun e he => h e (List.mem_cons_of_mem _ he)
    obtain ⟨a1, b1, c1⟩ := h d List.mem_cons_self
    refine ⟨?_, ?_, ?_⟩
    · rw [PyData.canLayAll0, a1, a]; rfl
    · rw [PyData.depthAll]; omega
    · rw [PyData.eqvAll, c1, c]; rfl
theorem okD_all : ∀ (n : Nat) (d : PyData), okD n d = true → d.canLay0 = true ∧ d.depth ≤ n ∧ d.eqv d = true := by
  intro n
  induction n with
  | zero =>
    intro d h
    cases d with
    | none => exact ⟨rfl, Nat.le_refl _, rfl⟩
    | bool b => exact ⟨rfl, Nat.le_refl _, by rw [PyData.eqv]; simp⟩
    | int i => exact ⟨rfl, Nat.le_refl _, by rw [PyData.eqv]; simp⟩
    | str s => exact ⟨by rw [PyData.canLay0]; exact h, Nat.le_refl _, by rw [PyData.eqv]; simp⟩
    | list ds => exact absurd h (by simp [okD])
    | tuple ds => exact absurd h (by simp [okD])
    | dict ds => exact absurd h (by simp [okD])
  | succ n ih =>
    intro d h
    cases d with
    | none => exact ⟨rfl, Nat.zero_le _, rfl⟩
    | bool b => exact ⟨rfl, Nat.zero_le _, by rw [PyData.eqv]; simp⟩
    | int i => exact ⟨rfl, Nat.zero_le _, by rw [PyData.eqv]; simp⟩
    | str s => exact ⟨by rw [PyData.canLay0]; exact h, Nat.zero_le _, by rw [PyData.eqv]; simp⟩
    | list ds =>
      obtain ⟨a, b, c⟩ := okA_all (n := n) ds fun d hd => ih d (List.all_eq_true.mp h d hd)
      exact ⟨by rw [PyData.canLay0]; exact a, by rw [PyData.depth]; omega, by rw [PyData.eqv]; exact c⟩
    | tuple ds =>
      obtain ⟨a, b, c⟩ := okA_all (n := n) ds fun d hd => ih d (List.all_eq_true.mp h d hd)
      exact ⟨by rw [PyData.canLay0]; exact a, by rw [PyData.depth]; omega, by rw [PyData.eqv]; exact c⟩
    | dict ds => exact absurd h (by simp [okD])
/-- all ways of m steps from height h to height 0 -/
def ways : Nat → Nat → List (List Nat)
  | 0, 0 => [[]]
  | 0, _ + 1 => []
  | m + 1, h => (if h + 1 ≤ m then (ways m (h + 1)).map (List.cons 100) else []) ++ (match h with
    | 0 => []
    | k + 1 => (ways m k).map (List.cons 111))
theorem in_ways : ∀ (l : List Nat) (h : Nat), (∀ c ∈ l, c = 100 ∨ c = 111) → (∀ k, k ≤ l.length → (l.take k).count 111 ≤ h + (l.take k).count 100) → h + l.count 100 = l.count 111 → l ∈ ways l.length h
  | [], h, _, _, e => by
    have : h = 0 := by simpa using e
    subst this
    exact List.mem_singleton.mpr rfl
  | x :: r, h, al, ah, e => by
    have ar : ∀ c ∈ r, c = 100 ∨ c = 111 := fun c hc => al c (List.mem_cons_of_mem _ hc)
    have tot : r.count 100 + r.count 111 = r.length := by
      clear e ah al
      induction r with
      | nil => rfl
      | cons y s ih =>
        have := ih fun c hc => ar c (List.mem_cons_of_mem _ hc)
        rw [List.count_cons, List.count_cons, List.length_cons]
        rcases ar y List.mem_cons_self with z | z <;> subst z <;> simp <;> omega
    rw [List.length_cons]
    unfold ways
    rw [List.count_cons, List.count_cons] at e
    rcases al x List.mem_cons_self with z | z
    · subst z
      simp at e
      refine List.mem_append.mpr (.inl ?_)
      rw [if_pos (by omega)]
      refine List.mem_map.mpr ⟨r, in_ways r (h + 1) ar (fun k hk => ?_) (by omega), rfl⟩
      have a := ah (k + 1) (by rw [List.length_cons]; omega)
      rw [List.take_succ_cons, List.count_cons, List.count_cons] at a
      simp at a
      omega
    · subst z
      simp at e
      have a1 := ah 1 (by rw [List.length_cons]; omega)
      simp at a1
      obtain ⟨k, rfl⟩ : ∃ k, h = k + 1 := ⟨h - 1, by omega⟩
      refine List.mem_append.mpr (.inr ?_)
      refine List.mem_map.mpr ⟨r, in_ways r k ar (fun j hj => ?_) (by omega), rfl⟩
      have a := ah (j + 1) (by rw [List.length_cons]; omega)
      rw [List.take_succ_cons, List.count_cons, List.count_cons] at a
      simp at a
      omega
/-- all words of the sizes 1 to 6 -/
def allWords : List (List Nat) := ways 2 0 ++ (ways 4 0 ++ (ways 6 0 ++ (ways 8 0 ++ (ways 10 0 ++ ways 12 0))))
theorem Good.all {l : List Nat} {n : Nat} (g : Good l n) (h1 : 1 ≤ n) (h6 : n ≤ 6) : l ∈ allWords := by
  have m : l ∈ ways l.length 0 := in_ways l 0 g.ltr (fun k hk => by have := g.ahead k hk; omega) (by have := ltr_count g.ltr; have := g.len; have := g.cnt; omega)
  rw [g.len] at m
  unfold allWords
  have : n = 1 ∨ n = 2 ∨ n = 3 ∨ n = 4 ∨ n = 5 ∨ n = 6 := by omega
  rcases this with e | e | e | e | e | e <;> subst e <;> simp only [List.mem_append] <;> simp [m]
/-- what a kernel run says of all words -/
theorem Good.by {l : List Nat} {n : Nat} (g : Good l n) (h1 : 1 ≤ n) (h6 : n ≤ 6) (f : List Nat → Bool) (e : allWords.all f = true) : f l = true := List.all_eq_true.mp e l (g.all h1 h6)
theorem pyIter_text {prog : Program} {w : World} {A : Around} {E : Value → Shared → Prop} {s : Shared} {x : Str} {t : Tok} {Q : Value → Shared → Prop}
    (h : Q (Value.ref s.heap.objs.size) { s with heap := s.heap.push { cls := Value.type (strIterType x), data := Data.fields #[Value.str x t, Value.int 0 0] } }) : wpAny (model prog w) A (pyIter (Value.str x t)) Q E s := by
  unfold strIterType at h
  cases ha : x.cps.all (· < 128)
  · rw [ha] at h
    exact wpAny_pyIter_wide ha h
  · rw [ha] at h
    exact wpAny_pyIter_ascii ha h
set_option maxHeartbeats 1000000 in
theorem enum_newS (x : Str) (t : Tok) : Meets (PySem.Builtin.«enumerate.__new__» ⟨[.type "enumerate", .str x t], []⟩) (fun _ R s => R (.ok (.ret (.ref (s.heap.push { cls := .type (strIterType x), data := .fields #[.str x t, .int 0 0] }).objs.size))) { s with heap := (s.heap.push { cls := .type (strIterType x), data := .fields #[.str x t, .int 0 0] }).push { cls := .type "enumerate", data := .fields #[.none, .bool false, .ref s.heap.objs.size, rawInt 0, .none, .none] } }) :=
  .of_wp fun prog w A R s post => by
    have hsub := sub_enumerate
    wp_walk using pyIter_text
    refine wpAny_stack_any fun st => wpAny_pure ?_
    split
    · rename_i c _ _ _ _ _
      cases (c == Value.type "enumerate")
      · wp_walk using pyIter_text
        exact ⟨_, rfl, post⟩
      · wp_walk using pyIter_text
        exact ⟨_, rfl, post⟩
    · wp_walk using pyIter_text
      exact ⟨_, rfl, post⟩
theorem call_enumS {prog : Program} {w : World} {A : Around} {E : Value → Shared → Prop} {s : Shared} {x : Str} {t : Tok} {Q : Value → Shared → Prop}
    (h : ∀ h', IsEnum h' (s.heap.objs.size + 1) s.heap.objs.size 0 .none → h'.IsStrIter s.heap.objs.size (strIterType x) x t 0 → (∀ b o, s.heap.get? b = some o → h'.get? b = some o) → Q (.ref (s.heap.objs.size + 1)) { s with heap := h' }) :
    wpAny (model prog w) A (call (.type "enumerate") [.str x t]) Q E s := by
  refine callType_new F.called_enumerate (by decide) (F.typeCall_enumerate_1 _) (F.newCall_enumerate_1 _) (fun obj => F.args_object_init_2 obj _) F.entry_enumerate_new (enum_newS x t) ?_
  have z1 : (s.heap.push { cls := .type (strIterType x), data := .fields #[.str x t, .int 0 0] }).objs.size = s.heap.objs.size + 1 := Heap.size_push ..
  show _ ∧ _
  rw [z1]
  have at2 := Heap.get?_push_size (s.heap.push { cls := .type (strIterType x), data := .fields #[.str x t, .int 0 0] }) (o := { cls := .type "enumerate", data := .fields #[.none, .bool false, .ref s.heap.objs.size, rawInt 0, .none, .none] }) rfl
  rw [z1] at at2
  exact ⟨⟨_, at2, rfl⟩, h _ at2 ⟨_, Heap.get?_push_of_some _ (Heap.get?_push_size _ rfl), rfl, rfl⟩ fun b o y => Heap.get?_push_of_some _ (Heap.get?_push_of_some _ y)⟩
/-- the text's letters, each in a new pair with its place -/
def IteS (x : Str) : It :=
  ⟨fun i _ => i < x.cps.size, fun i H v H' => ∃ T c, v = .ref T ∧ H T = none ∧ x.cps[i]? = some c ∧ H' = L2.upd H T (.tup [.int (i : Nat), .str ⟨#[c]⟩]), fun i _ => i = x.cps.size⟩
theorem turn_enumS {P : Program} {w : World} {K : PySem.W.Frag} {elts : List Expr} {kk : Nat} {tpos : Pos} (x : Str) (t : Tok) (e it : Addr) :
    Turn P w K (.Tuple elts kk tpos) (IteS x) [e, it] e (fun i h => (∃ old, IsEnum h e it ((i : Nat) : Int) old) ∧ h.IsStrIter it (strIterType x) x t i ∧ e ≠ it) where
  mem := by simp
  obj := fun i h ⟨⟨old, he⟩, ⟨o, ho, hc, hd⟩, _⟩ b hb => by
    rcases (show b = e ∨ b = it by simpa using hb) with z | z
    · rw [z]
      exact ⟨_, he, fun v q => nomatch q⟩
    · rw [z]
      exact ⟨o, ho, fun v q => by rw [hd] at q; cases q⟩
  keep := fun i h h' ⟨⟨old, he⟩, ⟨o, ho, r⟩, ne⟩ k => ⟨⟨old, k e (by simp) _ he⟩, ⟨o, k it (by simp) _ ho, r⟩, ne⟩
  item := by
    intro X hP hw hK calm i pins s σ H E I hf ⟨⟨old, he⟩, hit, ne⟩ hi
    subst hP hw hK
    have el := Heap.lt_size he
    have il : it < s.heap.objs.size := by obtain ⟨_, q, _⟩ := hit; exact Heap.lt_size q
    have D := PySem.Draws.text (prog := X.prog) (w := X.w) (A := X.A.in1) (I.ok.hd calm) it x t
    refine wpAny_pyNext_enum_itemD D he hit hi ne (by simp [ne]) fun v h' tk hv ho hit' hT hsz hk => ?_
    obtain ⟨c, u, hc, rfl⟩ := hv
    refine ⟨_, rfl, wpAny_letOwnedTupleGo_enum (s := { s with heap := h', toks := tk + 1 }) ho fun h2 he2 sb => ?_⟩
    have hT2 : h2.get? s.heap.objs.size = some { cls := .type "tuple", data := .seq #[.int i tk, .str ⟨#[c]⟩ u] } := (sb.2 _ (Nat.ne_of_gt el)).trans hT
    have new : ObjOk X.prog X.w (L2.upd H s.heap.objs.size (.tup [.int (i : Nat), .str ⟨#[c]⟩])) h2 s.heap.objs.size (.tup [.int (i : Nat), .str ⟨#[c]⟩]) :=
      ⟨by show 2 ≤ sizeLine; decide, [.int i tk, .str ⟨#[c]⟩ u], .cons ⟨_, rfl⟩ (.cons ⟨_, rfl⟩ .nil), ⟨_, hT2, rfl, _, rfl⟩⟩
    have I1 : L2.Inv X pins σ (L2.upd H s.heap.objs.size (.tup [.int (i : Nat), .str ⟨#[c]⟩])) { s with heap := h2, toks := tk + 1 } :=
      I.turnedNew (ch := [e, it]) (fun b ob hb q => (sb.2 b (fun z => hb (by simp [z]))).trans (hk b ob (fun z => hb (by simp [z])) (fun z => hb (by simp [z])) q)) hf (Nat.le_refl _) new
    refine ⟨.ref s.heap.objs.size, _, I1, rfl, ⟨_, c, rfl, I.hok.fresh (Nat.le_refl _), hc, rfl⟩, ⟨⟨.str ⟨#[c]⟩ u, ?_⟩, ?_, ne⟩, fun b hb => ?_⟩
    · rw [show ((i + 1 : Nat) : Int) = (i : Int) + 1 by omega]
      exact he2
    · obtain ⟨o, q, r⟩ := hit'
      exact ⟨o, (sb.2 it (Ne.symm ne)).trans q, r⟩
    · have lt : b < s.heap.objs.size := by
        rcases (show b = e ∨ b = it by simpa using hb) with z | z
        · exact z ▸ el
        · exact z ▸ il
      exact (upd_ne (Nat.ne_of_lt lt)).trans (hf b hb).1
  done := by
    intro X hP hw hK calm i pins s σ H E I hf ⟨⟨old, he⟩, hit, ne⟩ hx
    subst hP hw hK
    obtain ⟨f0, f1, f2, f3, f4, f5⟩ := hf it (by simp)
    have eT : s.TypeIs (.ref e) "enumerate" := ⟨_, he, rfl⟩
    obtain rfl : i = x.cps.size := hx
    unfold pyNext
    refine wpAny_bind (wpAny_attempt (wpAny_callSpecial?_slot (name := Str.ofString "__next__") eT F.slot_enumerate_next (wpAny_call_entry F.slot_enumerate_next eT F.entry_enumerate_next ?_ (F.args_enumerate_next_1 _))))
    show wpAny _ _ (field (.ref e) 2 >>= _) _ _ _
    refine wpAny_bind (wpAny_field he rfl (x := .ref it) rfl (wpAny_bind ((PySem.Draws.text (prog := X.prog) (w := X.w) (A := X.A.in1) (I.ok.hd calm) it x t).done _ _ _ hit fun h' er eb ⟨o, ho, hc⟩ => ?_)))
    exact wpAny_bind (wpAny_isInstance (T := "StopIteration") (b := true) ⟨o, ho, hc⟩ isSubtype_stop (wpAny_pure ⟨rfl, I.turned (t' := s.toks) (fun b o hb q => eb b o hb q) f0 f1 f3 f4 f5⟩))
  self := fun A i s Q E ⟨⟨_, he⟩, _⟩ h => wpAny_pyIter_enum he h
/-- enumerate(e), e a text -/
def iEnumS (ta : TA) : TI := fun σ H R => ta σ H fun vs H1 => ∃ x : Str, vs = [.str x] ∧ R (IteS x) H1
theorem pi_enumS {X : Cx} {e : Expr} {ta : TA} {p pos tpos : Pos} {elts : List Expr} {kk : Nat} (hg : Gl X "enumerate") (hm : X.mg "enumerate" = none) (ha : PA X [e] ta) (hs : starEach [e] X.env = [(false, eval e X.env)] := by rfl) :
    PI X (.Tuple elts kk tpos) (.Call (.Name "enumerate" p) [e] [] pos) (iEnumS ta) := by
  refine ⟨fun pins s σ H R I h => Call_ (ld_blt I hg hm boot_enumerate (PyProof.Rows.callWith_type1 (thn (ha.run pos pins s σ H _ I h) fun us s1 ⟨vs, H1, I1, r1, x, ex, q⟩ => ?_) hs rfl))⟩
  subst ex
  obtain ⟨u, rfl, ru⟩ := r1.one
  obtain ⟨t, rfl⟩ := ru
  have foot : ∀ b, b ∈ [s1.heap.objs.size + 1, s1.heap.objs.size] → FpOk X pins H1 b := fun b hb => by
    have le : s1.heap.objs.size ≤ b := by
      rcases (show b = s1.heap.objs.size + 1 ∨ b = s1.heap.objs.size by simpa using hb) with z | z
      · exact z ▸ Nat.le_succ _
      · exact z ▸ Nat.le_refl _
    exact I1.fpOk le (I1.hok.fresh le)
  exact call_enumS fun h' he hit hk => wpAny_pyIter_enum he ⟨_, _, _, _, H1, rfl, I1.kept (t' := s1.toks) hk, turn_enumS x t (s1.heap.objs.size + 1) s1.heap.objs.size, ⟨⟨.none, he⟩, hit, Nat.succ_ne_self _⟩, foot, q⟩
theorem walk_enumS {l : List Nat} : Walk (IteS (sOf l)) l.length (fun _ => True) (YPair (fun i => some (.int (i : Nat))) (fun i => (l[i]?).map fun c => V.str (sOf [c]))) := by
  refine ⟨fun i H hi _ => ?_, fun H _ => ?_, fun i H v H' _ _ y => ?_⟩
  · show i < (sOf l).cps.size
    simpa [sOf] using hi
  · show l.length = (sOf l).cps.size
    simp [sOf]
  · obtain ⟨T, c, e1, e2, e3, e4⟩ := y
    have e5 : l[i]? = some c := by simpa [sOf] using e3
    exact ⟨T, .int (i : Nat), .str (sOf [c]), e1, e2, e4, rfl, by
      show Option.map _ l[i]? = _
      rw [e5]
      rfl⟩
theorem Room.units65 {k : Nat} {A : Around} (h : Room k A) : A.units + 65 < cLine := by
  have := h.un
  omega
def mD (m : Nat × Nat) : PyData := .tuple [.int (m.1 : Nat), .int (m.2 : Nat)]
def mT (m : Nat × Nat) : HO := .tup [.int (m.1 : Nat), .int (m.2 : Nat)]
/-- xs are tuples that hold the pairs M -/
inductive Prs (H : Hp) : List V → List (Nat × Nat) → Prop where
  | nil : Prs H [] []
  | cons {T : Addr} {m : Nat × Nat} {xs : List V} {M : List (Nat × Nat)} (h : H T = some (mT m)) (r : Prs H xs M) : Prs H (.ref T :: xs) (m :: M)
theorem Prs.mono {H H' : Hp} (s : Same H H') : ∀ {xs M}, Prs H xs M → Prs H' xs M
  | _, _, .nil => .nil
  | _, _, .cons h r => .cons (s _ _ h) (r.mono s)
theorem Prs.len {H : Hp} : ∀ {xs M}, Prs H xs M → xs.length = M.length
  | _, _, .nil => rfl
  | _, _, .cons _ r => congrArg Nat.succ r.len
theorem Prs.snoc {H : Hp} {T : Addr} {m : Nat × Nat} (h : H T = some (mT m)) : ∀ {xs M}, Prs H xs M → Prs H (xs ++ [.ref T]) (M ++ [m])
  | _, _, .nil => .cons h .nil
  | _, _, .cons h2 r => .cons h2 (r.snoc h)
theorem Prs.at {H : Hp} : ∀ {xs M} {i : Nat} {x : V}, Prs H xs M → xs[i]? = some x → ∃ T m, x = .ref T ∧ M[i]? = some m ∧ H T = some (mT m)
  | _, _, _, _, .nil, e => by simp at e
  | _, _, 0, _, .cons (T := T) (m := m) h _, e => ⟨T, m, by simpa using e.symm, rfl, h⟩
  | _, _, i + 1, _, .cons _ r, e => by
    obtain ⟨T, m, a, b, c⟩ := r.at (i := i) (by simpa using e)
    exact ⟨T, m, a, by simpa using b, c⟩
theorem Prs.data {K : PySem.W.Frag} {H : Hp} : ∀ {xs M}, Prs H xs M → DpAll K H xs (M.map mD)
  | _, _, .nil => .nil
  | _, _, .cons h r => .cons (.tup (SqT.of h) (.cons (.int _) (.cons (.int _) .nil))) r.data
theorem Prs.mem {H : Hp} : ∀ {xs M} {x : V}, Prs H xs M → x ∈ xs → ∃ T m, x = .ref T ∧ m ∈ M ∧ H T = some (mT m)
  | _, _, _, .nil, h => by simp at h
  | _, _, x, .cons (T := T) (m := m) h r, hx => by
    rcases List.mem_cons.mp hx with e | e
    · exact ⟨T, m, e, List.mem_cons_self, h⟩
    · obtain ⟨T2, m2, a, b, c⟩ := r.mem e
      exact ⟨T2, m2, a, List.mem_cons_of_mem _ b, c⟩
theorem Prs.keep {H H' : Hp} {D : Addr} {o : HO} (hD : ∀ m, H D ≠ some (mT m)) (b : ∀ c o, c ≠ D → H c = some o → H' c = some o) : ∀ {xs M}, Prs H xs M → Prs H' xs M
  | _, _, .nil => .nil
  | _, _, .cons (T := T) (m := m) h r => .cons (b _ _ (fun z => hD m (by rw [← z]; exact h)) h) (r.keep (o := o) hD b)
def rInDT (K : PySem.W.Frag) : R2 := fun x y H Q => ∃ d ds, Dp K H x d ∧ Dp K H y (.tuple ds) ∧ SeqAt.shaped d = true ∧ SeqAt.shaped (.tuple ds) = true ∧ Q (.bl (ds.any fun z => PyData.eqv z d)) H
def rNotInDT (K : PySem.W.Frag) : R2 := fun x y H Q => ∃ d ds, Dp K H x d ∧ Dp K H y (.tuple ds) ∧ SeqAt.shaped d = true ∧ SeqAt.shaped (.tuple ds) = true ∧ Q (.bl (!ds.any fun z => PyData.eqv z d)) H
theorem op_inDT {X : Cx} {K : PySem.W.Frag} (hK : X.K = K) (hu : X.A.units + 65 < cLine) : OpR X (compareOp .In) (rInDT K) := by
  subst hK
  rintro pins s σ H x y v u Q I rx ry ⟨d, ds, hd, he, sd, se, q⟩
  obtain ⟨as, r1⟩ := Dp.reads I d x v hd rx
  obtain ⟨bs, r2⟩ := Dp.reads I (.tuple ds) y u he ry
  exact SeqAt.in_tuple_reads r2 r1 (SeqAt.canLay_of_shaped se) (SeqAt.canLay_of_shaped sd) (PyProof.Rows.room_in_shaped sd hu) ⟨.bl _, H, I, rfl, q⟩
theorem op_notInDT {X : Cx} {K : PySem.W.Frag} (hK : X.K = K) (hu : X.A.units + 65 < cLine) : OpR X (compareOp .NotIn) (rNotInDT K) := by
  subst hK
  rintro pins s σ H x y v u Q I rx ry ⟨d, ds, hd, he, sd, se, q⟩
  obtain ⟨as, r1⟩ := Dp.reads I d x v hd rx
  obtain ⟨bs, r2⟩ := Dp.reads I (.tuple ds) y u he ry
  exact SeqAt.notIn_tuple_reads r2 r1 (SeqAt.canLay_of_shaped se) (SeqAt.canLay_of_shaped sd) (PyProof.Rows.room_in_shaped sd hu) ⟨.bl _, H, I, rfl, q⟩
theorem op_inDK {X : Cx} {K : PySem.W.Frag} (hK : X.K = K) (hu : X.A.units + 65 < cLine) : OpR X (compareOp .In) (rInD K) := by
  subst hK
  exact op_inD hu
theorem op_notInDK {X : Cx} {K : PySem.W.Frag} (hK : X.K = K) (hu : X.A.units + 65 < cLine) : OpR X (compareOp .NotIn) (rNotInD K) := by
  subst hK
  exact op_notInD hu
theorem chk_ga {prog : Program} {w : World} {A : Around} {E : Value → Shared → Prop} {s : Shared} {x : Addr} {nm : Str} {t : Tok} {Q : Unit → Shared → Prop} (sub : PySem.W.Looks (model prog w) s.heap (isInstance (Value.ref x) (Value.type "BaseException")) true) (h : Q () s) :
    wpAny (model prog w) A (checkBuiltinCall "BaseException.__getattribute__" { pos := [Value.ref x, Value.str nm t] }) Q E s :=
  @PySem.W.check_slot (model prog w) A E s "BaseException.__getattribute__" "BaseException" "__getattribute__" (Value.ref x) [Value.str nm t] [] Q PySem.W.kin_classE._proof_2 PySem.W.kin_classE._proof_3 sub (F.args_bexc_ga (Value.ref x) (Value.str nm t)) h
set_option maxHeartbeats 400000 in
theorem kin_classX {prog : Program} {w : World} {A : Around} {E : Value → Shared → Prop} {s : Shared} {K : PySem.W.Frag} {x D : Addr} {ox o : Obj} {Q : Option Value → Shared → Prop} (C : ExcC K D) (X : K.In s.heap) (I : PySem.W.InstAt s.heap x ox D (some o))
    (h : Q (some (Value.ref D)) { s with toks := s.toks + 1 }) : wpAny (model prog w) A (getAttr? (Value.ref x) (Str.ofString "__class__")) Q E s := by
  have hf := PySem.W.findObj_data (K := K) (C := D) (od := o) (name := Str.ofString "__class__") (by obtain ⟨cd, hc, _⟩ := PySem.W.any_some C.hd; rw [hc]; rfl) C.ha C.hn C.ht
  obtain ⟨hp, g, d, t, os⟩ := s
  have L0 := PySem.W.InstAt.type (M := model prog w) I
  have L1 := PySem.W.looks_findIn (M := model prog w) X C.hg
  have L2 := PySem.W.looks_findIn (M := model prog w) X C.hk
  have L3 := PySem.W.looks_find (M := model prog w) X I hf
  have sub : PySem.W.Looks (model prog w) hp (isInstance (Value.ref x) (Value.type "BaseException")) true := PySem.W.Looks.andThen L0 (PySem.W.looks_subIn X C.hs)
  unfold getAttr?
  refine wpAny_bind (wpAny_mkText ?_)
  unfold getAttrBy?
  refine wpAny_bind (wpAny_attempt (wpAny_holding ?_))
  refine wpAny_bind (PySem.W.Looks.at L0 (wpAny_bind (PySem.W.Looks.at L1 ?_)))
  have hx2 : (Value.builtin "BaseException.__getattribute__" == Value.builtin "object.__getattribute__") = false := by decide
  have hx1 : (onTheHeap (Value.ref D) && (Value.builtin "BaseException.__getattribute__" == Value.builtin "object.__getattribute__")) = false := by rw [hx2]; rfl
  dsimp only
  rw [hx1, if_neg Bool.false_ne_true]
  unfold getAttrByItsOwn
  refine wpAny_bind ?_
  unfold hookBefore
  rw [if_pos (show onTheHeap (Value.ref D) = true from rfl)]
  refine PySem.W.Looks.at L2 (wpAny_bind (wpAny_attempt (wpAny_holding ?_)))
  unfold callGetattribute
  rw [if_neg (show ¬ (false && onTheHeap (Value.builtin "BaseException.__getattribute__")) = true from Bool.false_ne_true)]
  unfold boundAndCalled
  rw [F.excAttr_ValueError.ga.bind (Value.ref x)]
  refine wpAny_bind (wpAny_pure ?_)
  show wpAny (model prog w) A (call (Value.builtin "BaseException.__getattribute__") [Value.ref x, Value.str (Str.ofString "__class__") t]) _ _ _
  refine wpAny_call (codeAny_call_builtin F.excAttr_ValueError.ga.plain F.entry_bexc_ga ?_)
  refine chk_ga sub ?_
  unfold Builtin.«object.__getattribute__»
  refine wpAny_bind (m := slotArgs "__getattribute__" 1 { pos := [Value.ref x, Value.str (Str.ofString "__class__") t] }) (wpAny_of_eq (a := (Value.ref x, [Value.str (Str.ofString "__class__") t])) (by kernel_rfl!) ?_)
  dsimp only
  refine wpAny_bind (m := Builtin.ObjectAttr.attrName (Value.str (Str.ofString "__class__") t)) (wpAny_of_eq (a := Str.ofString "__class__") (by rfl) ?_)
  refine wpAny_bind (PySem.W.Looks.at L0 (wpAny_bind (PySem.W.Looks.at L3 ?_)))
  dsimp only
  unfold Builtin.ObjectAttr.bindTo
  refine wpAny_bind ?_
  refine wpAny_holding (wpAny_call (PySem.W.class_get X I C.hm ?_))
  refine wpAny_pure ?_
  show wpAny (model prog w) A (handedOut (Value.ref D)) _ _ _
  rw [PySem.W.handedOut_of (v := Value.ref D) rfl]
  exact wpAny_pure (wpAny_pure h)
theorem cls_lookup {K : PySem.W.Frag} {D : Addr} (hd : PySem.W.hasDictIn K D = true) : ∃ cls dict cd slots, K.lookup D = some ⟨cls, dict, .cls cd, slots⟩ := by
  obtain ⟨cd, hc, _⟩ := PySem.W.any_some hd
  unfold PySem.W.clsIn at hc
  split at hc
  · rename_i c d cd2 sl he
    exact ⟨c, d, cd2, sl, he⟩
  · cases hc
theorem kitx_excX {K : PySem.W.Frag} {x D : Addr} {ox o : Obj} (C : ExcC K D) : PySem.W.KitX K (Value.ref x) (Value.ref D) (fun h => PySem.W.InstAt h x ox D (some o)) := by
  obtain ⟨cls, dict, cd, slots, he⟩ := cls_lookup C.hd
  refine ⟨fun M h X I => PySem.W.InstAt.type I, fun M h X I => ?_, fun h tp dd its n sl X htp => ?_, fun X I q => kin_classX C X I q⟩
  · intro A' Q' E' s' k q
    show wpAny M A' (loadPart _ _ >>= _) _ _ _
    exact wpAny_bind (wpAny_loadPart (k D _ (X D _ he)) (wpAny_pure q))
  · refine Bool.eq_false_iff.mpr fun q => ?_
    have e := Value.ref.inj (beq_iff_eq.mp q)
    subst e
    have z := (X D _ he).symm.trans htp
    cases z
/-- isinstance(e, C), e caught, its attributes in a dict -/
def rIsX (K : PySem.W.Frag) (a : Addr) (cls : Value) (d : Option Addr) : List V → Hp → VK → Prop := fun xs H Q => ∃ (c : V) (u : Value) (D dd : Addr) (fs : List (Str × V)) (b : Bool), xs = [.ref a, c] ∧ ClsV c u ∧ cls = .ref D ∧ ExcC K D ∧ d = some dd ∧ H dd = some (.xd fs) ∧
  PySem.W.kitOne K (.ref D) u = some b ∧ Q (.bl b) H
theorem xd_some {P : Program} {w : World} {H : Hp} {h : Heap} {d : Addr} {fs : List (Str × V)} (z : ObjOk P w H h d (.xd fs)) : ∃ o, h.get? d = some o := by
  unfold ObjOk at z
  obtain ⟨mA, hn, _⟩ := z
  obtain ⟨o, _, _, ho, _⟩ := hn
  exact ⟨o, ho⟩
theorem call_isX {X : Cx} {K : PySem.W.Frag} {a : Addr} {cls : Value} {d : Option Addr} {oe : Obj} {pn : List (Addr × Obj)} (hK : X.K = K) (hz : Zc cls d oe) (hf : ∃ vs, oe.data = Data.fields vs) :
    CallR (X.suite a ((a, oe) :: pn)) (.builtin "isinstance") (rIsX K a cls d) := by
  subst hK
  intro pins s σ H xs us Q I r h
  obtain ⟨c, u, D, dd, fs, b, rfl, cv, rfl, C, rfl, ed, kb, q⟩ := h
  cases r with
  | cons rx rr =>
    cases rr with
    | cons rt r2 =>
      cases r2
      cases rx
      rename_i cu
      obtain rfl : cu = u := by
        cases cv with
        | ty n => first | exact rt | exact rt.symm
        | own c => first | exact rt | exact rt.symm
      obtain ⟨hget, _⟩ := I.pin (a, oe) (List.mem_append.mpr (.inl List.mem_cons_self))
      obtain ⟨o, ho⟩ := xd_some (I.hok dd _ ed)
      obtain ⟨vs, hv⟩ := hf
      have J : PySem.W.InstAt s.heap a oe D (some o) := by
        obtain ⟨oc, od, oda, osl⟩ := oe
        obtain ⟨h1, h2⟩ := hz
        cases h1
        cases h2
        cases hv
        exact ⟨hget, rfl, rfl, ho⟩
      exact PySem.W.kia_one (kitx_excX C) I.kIn J kb (fun z => nomatch z) fun tk => ⟨.bl b, H, I.kept (t' := tk) fun _ _ z => z, rfl, q⟩
structure FunV (K : PySem.W.Frag) (x qual : Str) (st : Stmt) (f : Addr) (fd : FuncData) : Prop where
  ex : ∃ (oc : Value) (od : Option Addr) (dV kV doc pm : Value) (an : Option Addr) (cdv ct : Value) (osl : Array (Option Value)),
    fd = PySem.W.fnOf x qual (defArgs st) (defBody st) (defScope st) dV kV doc pm an cdv ct ∧ K.lookup f = some ⟨oc, od, .func fd, osl⟩ ∧ PySem.W.codeIn K cdv qual = true
  kp : PySem.W.keepIn K (.ref f) = true
section
variable {P : Program} {w : World} {K : PySem.W.Frag} {mg : Str → Option Value} {base : Heap}
theorem FunV.ok {x qual : Str} {st : Stmt} {f : Addr} {fd : FuncData} {N ps : List Str} {k : Nat} {sp : Sp} (F : FunV K x qual st f fd) (S : FnScope N ps (defScope st)) (len : ∀ vs H Q E, sp vs H Q E → vs.length = ps.length)
    (hbody : ∀ (cdv : Value) (A : Around) (outer : List Env) (s : Shared) (H : Hp) (vs : List V) (Q : VK) (E : XK), Room k (A.deeper (envOfC qual (defScope st) s.heap.objs.size f cdv)) → sp vs H Q E →
      ∃ t, PSs (cxOf CX0 P w K mg base N qual (defScope st) f cdv A outer s H E).nox (defBody st) t ∧ t { nx := fun _ H' => Q .non H', rt := Q } (start N vs) H) : FnOk P w K mg base CX0 (k + 1) f fd ps sp := by
  obtain ⟨oc, od, dV, kV, doc, pm, an, cdv, ct, osl, rfl, lk, hcd⟩ := F.ex
  refine fn_of lk hcd S len fun A outer s H vs Q E hr hsp => ?_
  obtain ⟨t, h, q⟩ := hbody cdv A outer s H vs Q E hr hsp
  exact ⟨t, h.nox, q⟩
theorem FunV.okX {x qual : Str} {st : Stmt} {f : Addr} {fd : FuncData} {N ps : List Str} {k : Nat} {sp : Sp} (F : FunV K x qual st f fd) (S : FnScope N ps (defScope st)) (len : ∀ vs H Q E, sp vs H Q E → vs.length = ps.length)
    (hbody : ∀ (cdv : Value) (A : Around) (outer : List Env) (s : Shared) (H : Hp) (vs : List V) (Q : VK) (E : XK), Room k (A.deeper (envOfC qual (defScope st) s.heap.objs.size f cdv)) → sp vs H Q E →
      ∃ t, PSs (cxOf (L2.CX P w) P w K mg base N qual (defScope st) f cdv A outer s H E) (defBody st) t ∧ t { nx := fun _ H' => Q .non H', rt := Q } (start N vs) H) : FnOk P w K mg base (L2.CX P w) (k + 1) f fd ps sp := by
  obtain ⟨oc, od, dV, kV, doc, pm, an, cdv, ct, osl, rfl, lk, hcd⟩ := F.ex
  exact fn_of lk hcd S len fun A outer s H vs Q E hr hsp => hbody cdv A outer s H vs Q E hr hsp
theorem funV_mk {x qual : Str} {st : Stmt} {f : Addr} {oc : Value} {od an : Option Addr} {osl : Array (Option Value)} {dV kV doc pm cdv ct : Value} (l : K.lookup f = some ⟨oc, od, .func (PySem.W.fnOf x qual (defArgs st) (defBody st) (defScope st) dV kV doc pm an cdv ct), osl⟩)
    (c : PySem.W.codeIn K cdv qual = true) (k : PySem.W.keepIn K (.ref f) = true) : FunV K x qual st f (PySem.W.fnOf x qual (defArgs st) (defBody st) (defScope st) dV kV doc pm an cdv ct) := ⟨⟨oc, od, dV, kV, doc, pm, an, cdv, ct, osl, rfl, l, c⟩, k⟩
/-- every parameter is given; the defaults are the items of a tuple that is not needed -/
theorem bindsD {fd : FuncData} {ps : List Str} {T : Addr} {o : Obj} {its : Array Value} {n : Nat} (lT : K.lookup T = some o) (oT : o.data = .seq its n)
    (h : ∀ us : List Value, us.length = ps.length → ∃ k, bindArgs fd ⟨us, []⟩ = seqItems? (.ref T) >>= k ∧ k (some its) = pure (ps.zip us)) : Binds K fd ps [] := fun s us X hl => by
  rw [List.append_nil] at hl ⊢
  obtain ⟨k, e1, e2⟩ := h us hl
  refine BindsTo.of_looks fun M => ?_
  rw [e1]
  exact looks_items X lT oT (.of_pure e2)
end
/-- a method with defaults as it stands -/
structure MetAtD (K : PySem.W.Frag) (x qual : Str) (st : Stmt) (ps : List Str) (f : Addr) (fd : FuncData) : Prop where
  F : FunV K x qual st f fd
  b : Binds K fd ps []
namespace Vv
inductive D where
  | non | bl (b : Bool) | int (i : Int) | str (l : List Nat) | ty (n : String) | cl (c : Nat)
  | tup (l : List D) | lst (l : List D) | obj (c : Nat) (fs : List D) | dic (ks vs : List D) | set (l : List D)
/-- the classes: their addresses, the names of their fields -/
structure Tb where
  K : PySem.W.Frag
  cls : Nat → Addr
  fld : Nat → List Str
/-- a key of a dict -/
def keyOf : D → Option L2.Key
  | .int i => some (.inl i)
  | .str l => some (.inr (sOf l))
  | _ => none
def keysOf : List D → Option (List L2.Key)
  | [] => some []
  | k :: ks => (keyOf k).bind fun x => (keysOf ks).map fun r => x :: r
mutual
/-- v is the thing d, laid into Z -/
inductive Rp (B : Tb) (Z : Hp) : V → D → Prop where
  | non : Rp B Z .non .non
  | bl (b : Bool) : Rp B Z (.bl b) (.bl b)
  | int (i : Int) : Rp B Z (.int i) (.int i)
  | str (l : List Nat) : Rp B Z (.str (sOf l)) (.str l)
  | ty (n : String) : Rp B Z (.ty n) (.ty n)
  | cl (c : Nat) : Rp B Z (.ref (B.cls c)) (.cl c)
  | tup {a : Addr} {vs : List V} {ds : List D} (h : SqT B.K Z a vs) (r : Rps B Z vs ds) : Rp B Z (.ref a) (.tup ds)
  | lst {a : Addr} {vs : List V} {ds : List D} (h : Z a = some (.lst vs)) (r : Rps B Z vs ds) : Rp B Z (.ref a) (.lst ds)
  | obj {a dx : Addr} {c : Nat} {vs : List V} {ds : List D} (h : Z a = some (.ins (B.cls c) dx ((B.fld c).zip vs))) (hl : vs.length = (B.fld c).length) (r : Rps B Z vs ds) : Rp B Z (.ref a) (.obj c ds)
  | dicK {a : Addr} {ks ds : List D} {kvs : List (L2.Key × V)} (h : Z a = some (.dK kvs)) (hk : keysOf ks = some (kvs.map Prod.fst)) (r : Rps B Z (kvs.map Prod.snd) ds) : Rp B Z (.ref a) (.dic ks ds)
inductive Rps (B : Tb) (Z : Hp) : List V → List D → Prop where
  | nil : Rps B Z [] []
  | cons {v : V} {d : D} {vs : List V} {ds : List D} (h : Rp B Z v d) (r : Rps B Z vs ds) : Rps B Z (v :: vs) (d :: ds)
end
theorem seqT_mono {K : PySem.W.Frag} {H H' : Hp} {a : Addr} {xs : List V} (e : Same H H') (h : SqT K H a xs) : SqT K H' a xs := by
  rcases h with (h | ⟨o, h⟩) | h
  · exact .inl (.inl (e _ _ h))
  · exact .inl (.inr ⟨o, e _ _ h⟩)
  · exact .inr h
section
variable {B : Tb} {Z Z' : Hp}
mutual
theorem Rp.mono (s : Same Z Z') : ∀ {v : V} {d : D}, Rp B Z v d → Rp B Z' v d
  | _, _, .non => .non
  | _, _, .bl b => .bl b
  | _, _, .int i => .int i
  | _, _, .str l => .str l
  | _, _, .ty n => .ty n
  | _, _, .cl c => .cl c
  | _, _, .tup h r => .tup (seqT_mono s h) (Rps.mono s r)
  | _, _, .lst h r => .lst (s _ _ h) (Rps.mono s r)
  | _, _, .obj h hl r => .obj (s _ _ h) hl (Rps.mono s r)
  | _, _, .dicK h hk r => .dicK (s _ _ h) hk (Rps.mono s r)
theorem Rps.mono (s : Same Z Z') : ∀ {vs : List V} {ds : List D}, Rps B Z vs ds → Rps B Z' vs ds
  | _, _, .nil => .nil
  | _, _, .cons h r => .cons (Rp.mono s h) (Rps.mono s r)
end
theorem Rps.len : ∀ {vs : List V} {ds : List D}, Rps B Z vs ds → vs.length = ds.length
  | _, _, .nil => rfl
  | _, _, .cons _ r => congrArg Nat.succ r.len
theorem Rps.app : ∀ {vs ws : List V} {ds es : List D}, Rps B Z vs ds → Rps B Z ws es → Rps B Z (vs ++ ws) (ds ++ es)
  | _, _, _, _, .nil, s => s
  | _, _, _, _, .cons h r, s => .cons h (r.app s)
theorem Rps.at : ∀ {vs : List V} {ds : List D} {i : Nat} {d : D}, Rps B Z vs ds → ds[i]? = some d → ∃ v, vs[i]? = some v ∧ Rp B Z v d
  | _, _, 0, _, .cons h _, e => by cases e; exact ⟨_, rfl, h⟩
  | _, _, i + 1, _, .cons _ r, e => r.at (i := i) e
theorem Rps.at2 : ∀ {vs : List V} {ds : List D} {i : Nat} {v : V}, Rps B Z vs ds → vs[i]? = some v → ∃ d, ds[i]? = some d ∧ Rp B Z v d
  | _, _, 0, _, .cons h _, e => by cases e; exact ⟨_, rfl, h⟩
  | _, _, i + 1, _, .cons _ r, e => r.at2 (i := i) e
theorem Rps.take : ∀ {vs : List V} {ds : List D} (k : Nat), Rps B Z vs ds → Rps B Z (vs.take k) (ds.take k)
  | _, _, 0, _ => .nil
  | _, _, _ + 1, .nil => .nil
  | _, _, k + 1, .cons h r => .cons h (r.take k)
theorem Rps.drop : ∀ {vs : List V} {ds : List D} (k : Nat), Rps B Z vs ds → Rps B Z (vs.drop k) (ds.drop k)
  | _, _, 0, r => r
  | _, _, _ + 1, .nil => .nil
  | _, _, k + 1, .cons _ r => r.drop k
theorem Rps.rev {vs : List V} {ds : List D} (r : Rps B Z vs ds) : Rps B Z vs.reverse ds.reverse := by
  induction vs generalizing ds with
  | nil => cases r; exact .nil
  | cons v vs ih =>
    cases r with
    | cons h r =>
      rw [List.reverse_cons, List.reverse_cons]
      exact (ih r).app (.cons h .nil)
theorem Rps.one {v : V} {d : D} (h : Rp B Z v d) : Rps B Z [v] [d] := .cons h .nil
end
structure HS where
  cells : List Int
  pos : Nat
  pend : Int
  tot : Int
  bag : Bool := false
/-- what stands at a hand, at a bag -/
def HS.top (h : HS) (l : Addr) : List V := if h.bag then h.cells.map V.int else [.ref l, .int h.pos, .int h.pend, .int h.tot]
structure HandAt (H : Hp) (a l : Addr) (h : HS) : Prop where
  ea : H a = some (.lst (h.top l))
  el : H l = some (.lst (h.cells.map V.int))
  ne : (h.bag = false → a ≠ l) ∧ (h.bag = true → a = l)
/-- a row of a table of ours: a thing, or a list of ours -/
inductive Rw where
  | d (x : D) | l (ds : List D)
inductive Sl where
  | no | val (d : D) | own (ds : List D) | dct (ks ds : List D) | ob (c : Nat) (fs : List D) | hand | exc (c : Nat) (fs : List D) | tab (rows : List Rw) | al (j k : Nat)
/-- an item of a table's list -/
inductive Itm where
  | d (v : V) | l (a : Addr) (ws : List V)
def Itm.v : Itm → V
  | .d v => v
  | .l a _ => .ref a
def Itm.h : Itm → Option (Addr × HO)
  | .d _ => none
  | .l a ws => some (a, .lst ws)
/-- where a table of ours stands: its slot, its list, what its list holds -/
structure Tab where
  i : Nat
  p : Addr
  its : List Itm
inductive RowsOk (B : Tb) (Z : Hp) : List Itm → List Rw → Prop
  | nil : RowsOk B Z [] []
  | d {v : V} {x : D} {its : List Itm} {rows : List Rw} (h : Rp B Z v x) (r : RowsOk B Z its rows) : RowsOk B Z (.d v :: its) (.d x :: rows)
  | l {a : Addr} {ws : List V} {ds : List D} {its : List Itm} {rows : List Rw} (h : Rps B Z ws ds) (r : RowsOk B Z its rows) : RowsOk B Z (.l a ws :: its) (.l ds :: rows)
theorem RowsOk.mono {B : Tb} {Z Z' : Hp} (s : Same Z Z') : ∀ {its : List Itm} {rows : List Rw}, RowsOk B Z its rows → RowsOk B Z' its rows
  | _, _, .nil => .nil
  | _, _, .d h r => .d (h.mono s) (r.mono s)
  | _, _, .l h r => .l (h.mono s) (r.mono s)
abbrev En := List Sl
abbrev S := Option HS
inductive R (α : Type) where
  | ok (x : α) (s : S) | exc (c : Nat) (fs : List D) (s : S) | bad
inductive SR where
  | nx (ρ : En) (s : S) | rt (d : D) (s : S) | bk (ρ : En) (s : S) | ct (ρ : En) (s : S) | exc (c : Nat) (fs : List D) (ρ : En) (s : S) | bad
abbrev Ef := En → S → R D
abbrev Af := En → S → R (List D)
abbrev Tf := En → S → R Bool
abbrev Sf := En → S → SR
def R.bind {α β : Type} (r : R α) (k : α → S → R β) : R β := match r with
  | .ok x s => k x s
  | .exc c fs s => .exc c fs s
  | .bad => .bad
/-- from an expression into a statement -/
def R.then {α : Type} (r : R α) (ρ : En) (k : α → S → SR) : SR := match r with
  | .ok x s => k x s
  | .exc c fs s => .exc c fs ρ s
  | .bad => .bad
def SR.then (r : SR) (k : En → S → SR) : SR := match r with
  | .nx ρ s => k ρ s
  | .rt d s => .rt d s
  | .bk ρ s => .bk ρ s
  | .ct ρ s => .ct ρ s
  | .exc c fs ρ s => .exc c fs ρ s
  | .bad => .bad
structure Gf where
  B : Tb
  /-- exceptions: their classes, the names of their fields -/
  Z0 : Hp
  H0 : Hp
  hand : Option (Addr × Addr)
  self : Option Addr
  hid : List (Addr × HO)
  /-- the caught exception: its address, its class, its dict -/
  ux : Option (Addr × Value × Option Addr)
  /-- the tables of ours (what they are made of is hidden) -/
  tabs : List Tab
def OwnAt (ρ : En) (i : Nat) : Prop := match ρ[i]? with
  | some (.own _) => True
  | some (.dct _ _) => True
  | some (.ob _ _) => True
  | _ => False
/-- a dict of ours -/
structure Rkv (B : Tb) (Z : Hp) (kvs : List (L2.Key × V)) (ks ds : List D) : Prop where
  hk : keysOf ks = some (kvs.map Prod.fst)
  r : Rps B Z (kvs.map Prod.snd) ds
theorem Rkv.mono {B : Tb} {Z Z' : Hp} {kvs : List (L2.Key × V)} {ks ds : List D} (h : Rkv B Z kvs ks ds) (s : Same Z Z') : Rkv B Z' kvs ks ds := ⟨h.hk, h.r.mono s⟩
structure Gf.Free (G : Gf) (Z : Hp) (p : Addr) : Prop where
  z : Z p = none
  h : ∀ q, G.hand = some q → p ≠ q.1 ∧ p ≠ q.2
  d : ∀ q ∈ G.hid, p ≠ q.1
def SlOk (G : Gf) (Z H : Hp) (σ : L2.St) (i : Nat) : Sl → Prop
  | .no => True
  | .val d => ∃ v, σ[i]? = some (some v) ∧ Rp G.B Z v d
  | .own ds => ∃ p vs, σ[i]? = some (some (.ref p)) ∧ H p = some (.lst vs) ∧ G.Free Z p ∧ G.H0 p = none ∧ Rps G.B Z vs ds
  | .dct ks ds => ∃ p kvs, σ[i]? = some (some (.ref p)) ∧ H p = some (.dK kvs) ∧ G.Free Z p ∧ G.H0 p = none ∧ Rkv G.B Z kvs ks ds
  | .ob c fs => ∃ x dx vs, σ[i]? = some (some (.ref x)) ∧ G.self = some x ∧ H x = some (.ins (G.B.cls c) dx ((G.B.fld c).zip vs)) ∧ G.Free Z x ∧ Rps G.B Z vs fs
  | .hand => ∃ q, G.hand = some q ∧ σ[i]? = some (some (.ref q.1))
  | .exc c fs => ∃ a d vs, σ[i]? = some (some (.ref a)) ∧ G.ux = some (a, .ref (G.B.cls c), some d) ∧ Z d = some (.xd ((G.B.fld c).zip vs)) ∧ vs.length = (G.B.fld c).length ∧ Rps G.B Z vs fs
  | .tab rows => ∃ T ∈ G.tabs, T.i = i ∧ σ[i]? = some (some (.ref T.p)) ∧ RowsOk G.B Z T.its rows
  | .al j k => ∃ T ∈ G.tabs, T.i = j ∧ ∃ a ws, T.its[k]? = some (.l a ws) ∧ σ[i]? = some (some (.ref a))
structure VI (G : Gf) (Z H : Hp) (σ : L2.St) (ρ : En) (s : S) : Prop where
  len : ρ.length = σ.length
  zh : Same Z H
  z0 : Same G.Z0 Z
  zn : ∀ p o, Z p = some o → G.Z0 p = some o ∨ G.H0 p = none
  keep : ∀ b o, G.H0 b = some o → (∀ q, G.hand = some q → b ≠ q.1) → (∀ x, G.self = some x → b ≠ x) → H b = some o
  hnd : ∀ q, G.hand = some q → ∃ st, s = some st ∧ HandAt H q.1 q.2 st ∧ Z q.1 = none ∧ Z q.2 = none ∧ ∀ e ∈ G.hid, e.1 ≠ q.1 ∧ e.1 ≠ q.2
  slf : ∀ x, G.self = some x → H x ≠ none
  hid : ∀ q ∈ G.hid, H q.1 = some q.2 ∧ Z q.1 = none
  sl : ∀ i x, ρ[i]? = some x → SlOk G Z H σ i x
  dis : ∀ i j p, i ≠ j → OwnAt ρ i → OwnAt ρ j → σ[i]? = some (some (.ref p)) → σ[j]? ≠ some (some (.ref p))
/-- nothing that stood has changed; what is laid into Z is new -/
structure Step (Z H Z' H' : Hp) : Prop where
  hh : Same H H'
  zz : Same Z Z'
  zh : Same Z' H'
  zn : ∀ p o, Z' p = some o → Z p = some o ∨ H p = none
theorem Step.refl {Z H : Hp} (s : Same Z H) : Step Z H Z H := ⟨Same.refl H, Same.refl Z, s, fun _ _ h => .inl h⟩
theorem Step.trans {Z H Z1 H1 Z2 H2 : Hp} (a : Step Z H Z1 H1) (b : Step Z1 H1 Z2 H2) : Step Z H Z2 H2 :=
  ⟨a.hh.trans b.hh, a.zz.trans b.zz, b.zh, fun p o h => (b.zn p o h).elim (fun h => a.zn p o h) fun h => .inr (a.hh.free h)⟩
theorem Step.free {Z H Z' H' : Hp} (t : Step Z H Z' H') {p : Addr} {o : HO} (h : H p = some o) (z : Z p = none) : Z' p = none := by
  cases e : Z' p with
  | none => rfl
  | some u =>
    rcases t.zn p u e with q | q
    · rw [z] at q; cases q
    · rw [h] at q; cases q
/-- a new object, laid into Z too -/
theorem Step.new {Z H : Hp} {p : Addr} (o : HO) (s : Same Z H) (n : H p = none) : Step Z H (upd Z p o) (upd H p o) := by
  refine ⟨same_new (Same.refl H) n, same_new (Same.refl Z) (s.free n), fun b u e => ?_, fun b u e => ?_⟩
  · by_cases q : b = p
    · subst q; rw [upd_same] at e ⊢; exact e
    · rw [upd_ne q] at e ⊢; exact s _ _ e
  · by_cases q : b = p
    · subst q; exact .inr n
    · rw [upd_ne q] at e; exact .inl e
/-- a new object that is not laid into Z -/
theorem Step.newH {Z H : Hp} {p : Addr} (o : HO) (s : Same Z H) (n : H p = none) : Step Z H Z (upd H p o) :=
  ⟨same_new (Same.refl H) n, Same.refl Z, fun b u e => by rw [upd_ne (ne_of_none (s b u e) n)]; exact s b u e, fun _ _ h => .inl h⟩
section
variable {G : Gf} {Z H Z' H' : Hp} {σ : L2.St} {ρ : En} {s : S}
theorem Gf.Free.step {p : Addr} {o : HO} (f : G.Free Z p) (t : Step Z H Z' H') (e : H p = some o) : G.Free Z' p := ⟨t.free e f.z, f.h, f.d⟩
theorem HandAt.mono {a l : Addr} {st : HS} (h : HandAt H a l st) (e : Same H H') : HandAt H' a l st := ⟨e _ _ h.ea, e _ _ h.el, h.ne⟩
theorem SlOk.step (t : Step Z H Z' H') {i : Nat} : ∀ {x : Sl}, SlOk G Z H σ i x → SlOk G Z' H' σ i x
  | .no, _ => trivial
  | .val _, ⟨v, e, r⟩ => ⟨v, e, r.mono t.zz⟩
  | .own _, ⟨p, vs, e, h, f, n, r⟩ => ⟨p, vs, e, t.hh _ _ h, f.step t h, n, r.mono t.zz⟩
  | .dct _ _, ⟨p, vs, e, h, f, n, r⟩ => ⟨p, vs, e, t.hh _ _ h, f.step t h, n, r.mono t.zz⟩
  | .ob _ _, ⟨x, dx, vs, e, q, h, f, r⟩ => ⟨x, dx, vs, e, q, t.hh _ _ h, f.step t h, r.mono t.zz⟩
  | .hand, h => h
  | .exc _ _, ⟨a, d, vs, e, x, h, l, r⟩ => ⟨a, d, vs, e, x, t.zz _ _ h, l, r.mono t.zz⟩
  | .tab _, ⟨T, hT, hi, e, r⟩ => ⟨T, hT, hi, e, r.mono t.zz⟩
  | .al _ _, h => h
theorem VI.step (I : VI G Z H σ ρ s) (t : Step Z H Z' H') : VI G Z' H' σ ρ s where
  len := I.len
  zh := t.zh
  z0 := I.z0.trans t.zz
  zn := fun p o e => (t.zn p o e).elim (fun h => I.zn p o h) fun h => by
    cases q : G.H0 p with
    | none => exact .inr rfl
    | some u =>
      refine absurd (I.keep p u q (fun q hq e2 => ?_) fun x hx e2 => ?_) (by rw [h]; exact fun z => nomatch z)
      · obtain ⟨st, _, hA, _⟩ := I.hnd q hq
        rw [e2, hA.ea] at h
        cases h
      · rw [e2] at h
        exact I.slf x hx h
  keep := fun b o e ha hx => t.hh _ _ (I.keep b o e ha hx)
  hnd := fun q e => by
    obtain ⟨st, e1, h, z1, z2, hd⟩ := I.hnd q e
    exact ⟨st, e1, h.mono t.hh, t.free h.ea z1, t.free h.el z2, hd⟩
  slf := fun x e z => I.slf x e (t.hh.free z)
  hid := fun q e => ⟨t.hh _ _ (I.hid q e).1, t.free (I.hid q e).1 (I.hid q e).2⟩
  sl := fun i x e => (I.sl i x e).step t
  dis := I.dis
end
section
variable {G : Gf} {Z H Z' H' : Hp} {σ : L2.St} {ρ : En} {s : S}
/-- the slots as they are, others forgotten or renamed -/
theorem VI.slots (I : VI G Z H σ ρ s) {σ' : L2.St} {ρ' : En} (len : ρ'.length = σ'.length) (sl : ∀ i x, ρ'[i]? = some x → SlOk G Z H σ' i x)
    (dis : ∀ i j p, i ≠ j → OwnAt ρ' i → OwnAt ρ' j → σ'[i]? = some (some (.ref p)) → σ'[j]? ≠ some (some (.ref p))) : VI G Z H σ' ρ' s :=
  { I with len := len, sl := sl, dis := dis }
theorem ownAt_set_val {ρ : En} {i j : Nat} {d : D} (h : OwnAt (ρ.set i (.val d)) j) : j ≠ i ∧ OwnAt ρ j := by
  unfold OwnAt at h
  by_cases e : i = j
  · subst e
    rw [List.getElem?_set_self'] at h
    cases q : ρ[i]? with
    | none => rw [q] at h; exact h.elim
    | some x => rw [q] at h; exact h.elim
  · rw [List.getElem?_set_ne e] at h
    exact ⟨Ne.symm e, h⟩
theorem slOk_other {i j : Nat} {v : Option V} (n : i ≠ j) : ∀ {x : Sl}, SlOk G Z H σ j x → SlOk G Z H (σ.set i v) j x
  | .no, _ => trivial
  | .val _, ⟨u, e, r⟩ => ⟨u, (List.getElem?_set_ne n).trans e, r⟩
  | .own _, ⟨p, vs, e, r⟩ => ⟨p, vs, (List.getElem?_set_ne n).trans e, r⟩
  | .dct _ _, ⟨p, vs, e, r⟩ => ⟨p, vs, (List.getElem?_set_ne n).trans e, r⟩
  | .ob _ _, ⟨x, dx, vs, e, r⟩ => ⟨x, dx, vs, (List.getElem?_set_ne n).trans e, r⟩
  | .hand, ⟨q, h, e⟩ => ⟨q, h, (List.getElem?_set_ne n).trans e⟩
  | .exc _ _, ⟨a, d, vs, e, r⟩ => ⟨a, d, vs, (List.getElem?_set_ne n).trans e, r⟩
  | .tab _, ⟨T, hT, hi, e, r⟩ => ⟨T, hT, hi, (List.getElem?_set_ne n).trans e, r⟩
  | .al _ _, ⟨T, hT, hi, a, ws, e1, e⟩ => ⟨T, hT, hi, a, ws, e1, (List.getElem?_set_ne n).trans e⟩
/-- a value into a slot -/
theorem VI.setVal (I : VI G Z H σ ρ s) {i : Nat} {v : V} {d : D} (r : Rp G.B Z v d) : VI G Z H (σ.set i (some v)) (ρ.set i (.val d)) s := by
  refine I.slots (by rw [List.length_set, List.length_set, I.len]) (fun j x e => ?_) fun j k p n oj ok e => ?_
  · by_cases q : i = j
    · subst q
      rw [List.getElem?_set_self'] at e
      cases h : ρ[i]? with
      | none => rw [h] at e; cases e
      | some y =>
        rw [h] at e
        cases e
        have hl : i < σ.length := by
          have := (List.getElem?_eq_some_iff.mp h).1
          rw [I.len] at this
          exact this
        exact ⟨v, by rw [List.getElem?_set_self hl], r⟩
    · rw [List.getElem?_set_ne q] at e
      exact slOk_other q (I.sl j x e)
  · obtain ⟨n1, o1⟩ := ownAt_set_val oj
    obtain ⟨n2, o2⟩ := ownAt_set_val ok
    rw [List.getElem?_set_ne (Ne.symm n1)] at e
    rw [List.getElem?_set_ne (Ne.symm n2)]
    exact I.dis j k p n o1 o2 e
theorem ownAt_set_no {ρ : En} {i j : Nat} (h : OwnAt (ρ.set i .no) j) : j ≠ i ∧ OwnAt ρ j := by
  unfold OwnAt at h
  by_cases e : i = j
  · subst e
    rw [List.getElem?_set_self'] at h
    cases q : ρ[i]? with
    | none => rw [q] at h; exact h.elim
    | some x => rw [q] at h; exact h.elim
  · rw [List.getElem?_set_ne e] at h
    exact ⟨Ne.symm e, h⟩
/-- a slot forgotten, whatever stands there -/
theorem VI.setNo (I : VI G Z H σ ρ s) {i : Nat} {v : Option V} : VI G Z H (σ.set i v) (ρ.set i .no) s := by
  refine I.slots (by rw [List.length_set, List.length_set, I.len]) (fun j x e => ?_) fun j k p n oj ok e => ?_
  · by_cases q : i = j
    · subst q
      rw [List.getElem?_set_self'] at e
      cases h : ρ[i]? with
      | none => rw [h] at e; cases e
      | some y => rw [h] at e; cases e; exact trivial
    · rw [List.getElem?_set_ne q] at e
      exact slOk_other q (I.sl j x e)
  · obtain ⟨n1, o1⟩ := ownAt_set_no oj
    obtain ⟨n2, o2⟩ := ownAt_set_no ok
    rw [List.getElem?_set_ne (Ne.symm n1)] at e
    rw [List.getElem?_set_ne (Ne.symm n2)]
    exact I.dis j k p n o1 o2 e
end
end Vv
namespace Vv
def ExOk (G : Gf) (W : WX) (σ : L2.St) (ρ : En) (Z : Hp) (c : Nat) (fs : List D) (s : S) : Prop :=
  ∀ d vs Z' H', VI G Z' H' σ ρ s → Same Z Z' → Z' d = some (.xd ((G.B.fld c).zip vs)) → vs.length = (G.B.fld c).length → Rps G.B Z' vs fs → W (.ref (G.B.cls c)) (some d) σ H'
def ROk (G : Gf) (W : WX) (σ : L2.St) (ρ : En) (Z : Hp) {α : Type} (r : R α) (k : α → S → Prop) : Prop := match r with
  | .ok x s => k x s
  | .exc c fs s => ExOk G W σ ρ Z c fs s
  | .bad => False
def tV (G : Gf) (W : WX) (f : Ef) : TE := fun σ H Q => ∃ Z ρ s, VI G Z H σ ρ s ∧ ROk G W σ ρ Z (f ρ s) fun d s' => ∀ v Z' H', VI G Z' H' σ ρ s' → Same Z Z' → Rp G.B Z' v d → Q v H'
def tVA (G : Gf) (W : WX) (f : Af) : TA := fun σ H Q => ∃ Z ρ s, VI G Z H σ ρ s ∧ ROk G W σ ρ Z (f ρ s) fun ds s' => ∀ vs Z' H', VI G Z' H' σ ρ s' → Same Z Z' → Rps G.B Z' vs ds → Q vs H'
def tVT (G : Gf) (W : WX) (f : Tf) : TT := fun σ H Q => ∃ Z ρ s, VI G Z H σ ρ s ∧ ROk G W σ ρ Z (f ρ s) fun b s' => ∀ Z' H', VI G Z' H' σ ρ s' → Same Z Z' → Q b H'
def VE (B : Tb) (u : Option (Addr × Value × Option Addr)) (X : Cx) (W : WX) (e : Expr) (f : Ef) : Prop := ∀ G : Gf, G.B = B ∧ G.ux = u → PE X e (tV G W f)
def VA (B : Tb) (u : Option (Addr × Value × Option Addr)) (X : Cx) (W : WX) (es : List Expr) (f : Af) : Prop := ∀ G : Gf, G.B = B ∧ G.ux = u → PA X es (tVA G W f)
def VT (B : Tb) (u : Option (Addr × Value × Option Addr)) (X : Cx) (W : WX) (e : Expr) (f : Tf) : Prop := ∀ G : Gf, G.B = B ∧ G.ux = u → PT X e (tVT G W f)
def VW (B : Tb) (u : Option (Addr × Value × Option Addr)) (X : Cx) (W : WX) (e : Expr) (f : Tf) : Prop := ∀ G : Gf, G.B = B ∧ G.ux = u → PW X e (tVT G W f)
section
variable {G : Gf} {W : WX} {σ : L2.St} {ρ : En} {Z Z1 H : Hp}
theorem ExOk.up {c : Nat} {fs : List D} {s : S} (z : Same Z Z1) (h : ExOk G W σ ρ Z c fs s) : ExOk G W σ ρ Z1 c fs s :=
  fun d vs Z' H' I z1 e l r => h d vs Z' H' I (z.trans z1) e l r
theorem ROk.up {α : Type} {r : R α} {k k' : α → S → Prop} (z : Same Z Z1) (h : ROk G W σ ρ Z r k) (w : ∀ x s, k x s → k' x s) : ROk G W σ ρ Z1 r k' := by
  cases r with
  | ok x s => exact w x s h
  | exc c fs s => exact ExOk.up z h
  | bad => exact h
theorem ROk.bind {α β : Type} {r : R α} {k : α → S → R β} {P : β → S → Prop} (h : ROk G W σ ρ Z (r.bind k) P) : ROk G W σ ρ Z r fun x s => ROk G W σ ρ Z (k x s) P := by
  cases r with
  | ok x s => exact h
  | exc c fs s => exact h
  | bad => exact h
end
theorem pe_mono {X : Cx} {e : Expr} {t t' : TE} (h : PE X e t) (m : ∀ σ H Q, t' σ H Q → t σ H Q) : PE X e t' := ⟨fun pins s σ H Q I q => h.run pins s σ H Q I (m σ H Q q)⟩
theorem pt_mono {X : Cx} {e : Expr} {t t' : TT} (h : PT X e t) (m : ∀ σ H Q, t' σ H Q → t σ H Q) : PT X e t' := ⟨fun pins s σ H Q I q => h.run pins s σ H Q I (m σ H Q q)⟩
theorem pw_mono {X : Cx} {e : Expr} {t t' : TT} (h : PW X e t) (m : ∀ σ H Q, t' σ H Q → t σ H Q) : PW X e t' := ⟨fun wh pins s σ H Q I q => h.run wh pins s σ H Q I (m σ H Q q)⟩
theorem pa_mono {X : Cx} {es : List Expr} {t t' : TA} (h : PA X es t) (m : ∀ σ H Q, t' σ H Q → t σ H Q) : PA X es t' := ⟨fun pos pins s σ H Q I q => h.run pos pins s σ H Q I (m σ H Q q)⟩
def opt {α : Type} (o : Option α) (s : S) : R α := match o with
  | some d => .ok d s
  | none => .bad
theorem ROk.opt {G : Gf} {W : WX} {σ : L2.St} {ρ : En} {Z : Hp} {α : Type} {o : Option α} {s : S} {k : α → S → Prop} (h : ROk G W σ ρ Z (opt o s) k) : ∃ d, o = some d ∧ k d s := by
  cases o with
  | some d => exact ⟨d, rfl, h⟩
  | none => exact h.elim
section
variable {B : Tb} {u : Option (Addr × Value × Option Addr)} {X : Cx} {W : WX}
/-- what stands in slot i -/
def eN (i : Nat) : Ef := fun ρ s => match ρ[i]? with
  | some (.val d) => .ok d s
  | _ => .bad
def eC (d : D) : Ef := fun _ s => .ok d s
theorem ve_n (i : Nat) {x : Str} {pos : Pos} (hN : X.N[i]? = some x := by rfl) (hv : Vis X.env.scope x := by first | exact Or.inl rfl | exact Or.inr (Or.inl rfl) | exact Or.inr (Or.inr rfl)) (hd : (x == ("__debug__" : Str)) = false := by decide)
    (hcd : (x == ("__classdict__" : Str)) = false := by decide) : VE B u X W (.Name x pos) (eN i) := by
  intro G hG
  obtain ⟨rfl, rfl⟩ := hG
  refine pe_mono (pe_var hN hv hd hcd) fun σ H Q ⟨Z, ρ, s, I, h⟩ => ?_
  unfold eN at h
  cases e : ρ[i]? with
  | none => rw [e] at h; exact h.elim
  | some x =>
    rw [e] at h
    cases x with
    | val d =>
      obtain ⟨v, e2, r⟩ := I.sl i _ e
      exact ⟨v, e2, h v Z H I (Same.refl Z) r⟩
    | _ => exact h.elim
theorem ve_c {e : Expr} {v : V} {d : D} (h : PE X e (tC v)) (r : ∀ Z, Rp B Z v d) : VE B u X W e (eC d) := by
  intro G hG
  obtain ⟨rfl, rfl⟩ := hG
  exact pe_mono h fun σ H Q ⟨Z, ρ, s, I, h⟩ => h v Z H I (Same.refl Z) (r Z)
theorem ve_int {i : Int} {j pos} : VE B u X W (.Constant (.int i) j pos) (eC (.int i)) := ve_c pe_int fun _ => .int i
theorem ve_bl {b : Bool} {j pos} : VE B u X W (.Constant (.bool b) j pos) (eC (.bl b)) := ve_c pe_bl fun _ => .bl b
theorem ve_non {j pos} : VE B u X W (.Constant .none j pos) (eC .non) := ve_c pe_non fun _ => .non
theorem ve_s (l : List Nat) {x : Str} {j pos} (h : x = sOf l) : VE B u X W (.Constant (.str x) j pos) (eC (.str l)) := ve_c (pe_s l h) fun _ => .str l
structure Op2 (B : Tb) (r : R2) (g : D → D → Option D) : Prop where
  run : ∀ {Z H : Hp} {x y : V} {dx dy d : D} {Q : VK}, Same Z H → Rp B Z x dx → Rp B Z y dy → g dx dy = some d → (∀ v Z' H', Step Z H Z' H' → Rp B Z' v d → Q v H') → r x y H Q
structure Op1 (B : Tb) (r : V → Hp → VK → Prop) (g : D → Option D) : Prop where
  run : ∀ {Z H : Hp} {x : V} {dx d : D} {Q : VK}, Same Z H → Rp B Z x dx → g dx = some d → (∀ v Z' H', Step Z H Z' H' → Rp B Z' v d → Q v H') → r x H Q
structure OpN (B : Tb) (r : List V → Hp → VK → Prop) (g : List D → Option D) : Prop where
  run : ∀ {Z H : Hp} {xs : List V} {ds : List D} {d : D} {Q : VK}, Same Z H → Rps B Z xs ds → g ds = some d → (∀ v Z' H', Step Z H Z' H' → Rp B Z' v d → Q v H') → r xs H Q
def eOp2 (g : D → D → Option D) (fa fb : Ef) : Ef := fun ρ s => (fa ρ s).bind fun x s1 => (fb ρ s1).bind fun y s2 => opt (g x y) s2
def eOp1 (g : D → Option D) (fa : Ef) : Ef := fun ρ s => (fa ρ s).bind fun x s1 => opt (g x) s1
def eOpN (g : List D → Option D) (fa : Af) : Ef := fun ρ s => (fa ρ s).bind fun x s1 => opt (g x) s1
theorem op2_of {G : Gf} {r : R2} {g : D → D → Option D} {fa fb : Ef} (O : Op2 G.B r g) {σ : L2.St} {H : Hp} {Q : VK} (h : tV G W (eOp2 g fa fb) σ H Q) : tOp r (tV G W fa) (tV G W fb) σ H Q := by
  obtain ⟨Z, ρ, s, I, h⟩ := h
  refine ⟨Z, ρ, s, I, h.bind.up (Same.refl Z) fun x s1 h1 v Z1 H1 I1 z1 rv => ?_⟩
  refine ⟨Z1, ρ, s1, I1, h1.bind.up z1 fun y s2 h2 v2 Z2 H2 I2 z2 ru => ?_⟩
  obtain ⟨d, e, k⟩ := h2.opt
  exact O.run I2.zh (rv.mono z2) ru e fun w Z3 H3 t r3 => k w Z3 H3 (I2.step t) (z1.trans (z2.trans t.zz)) r3
theorem op1_of {G : Gf} {r : V → Hp → VK → Prop} {g : D → Option D} {fa : Ef} (O : Op1 G.B r g) {σ : L2.St} {H : Hp} {Q : VK} (h : tV G W (eOp1 g fa) σ H Q) : tV G W fa σ H fun x H1 => r x H1 Q := by
  obtain ⟨Z, ρ, s, I, h⟩ := h
  refine ⟨Z, ρ, s, I, h.bind.up (Same.refl Z) fun x s1 h1 v Z1 H1 I1 z1 rv => ?_⟩
  obtain ⟨d, e, k⟩ := h1.opt
  exact O.run I1.zh rv e fun w Z3 H3 t r3 => k w Z3 H3 (I1.step t) (z1.trans t.zz) r3
theorem opN_of {G : Gf} {r : List V → Hp → VK → Prop} {g : List D → Option D} {fa : Af} (O : OpN G.B r g) {σ : L2.St} {H : Hp} {Q : VK} (h : tV G W (eOpN g fa) σ H Q) : tVA G W fa σ H fun x H1 => r x H1 Q := by
  obtain ⟨Z, ρ, s, I, h⟩ := h
  refine ⟨Z, ρ, s, I, h.bind.up (Same.refl Z) fun x s1 h1 v Z1 H1 I1 z1 rv => ?_⟩
  obtain ⟨d, e, k⟩ := h1.opt
  exact O.run I1.zh rv e fun w Z3 H3 t r3 => k w Z3 H3 (I1.step t) (z1.trans t.zz) r3
variable {a b : Expr} {pos : Pos} {fa fb : Ef}
theorem ve_op {op : Operator} {r : R2} {g : D → D → Option D} (ho : OpR X (binaryOp op) r) (O : Op2 B r g) (ha : VE B u X W a fa) (hb : VE B u X W b fb) : VE B u X W (.BinOp a op b pos) (eOp2 g fa fb) := by
  intro G hG
  obtain ⟨rfl, rfl⟩ := hG
  exact pe_mono (pe_op ho (ha G ⟨rfl, rfl⟩) (hb G ⟨rfl, rfl⟩)) fun _ _ _ h => op2_of O h
theorem ve_cmp {op : CmpOp} {r : R2} {g : D → D → Option D} (ho : OpR X (compareOp op) r) (O : Op2 B r g) (ha : VE B u X W a fa) (hb : VE B u X W b fb) (hm : behindInMarks op b = false) : VE B u X W (.Compare a [op] [b] pos) (eOp2 g fa fb) := by
  intro G hG
  obtain ⟨rfl, rfl⟩ := hG
  exact pe_mono (pe_cmpR ho (ha G ⟨rfl, rfl⟩) (hb G ⟨rfl, rfl⟩) hm) fun _ _ _ h => op2_of O h
theorem ve_un {op : UnaryOp} {r : V → Hp → VK → Prop} {g : D → Option D} (ho : UnR X (unaryOp op) r) (O : Op1 B r g) (ha : VE B u X W a fa) : VE B u X W (.UnaryOp op a pos) (eOp1 g fa) := by
  intro G hG
  obtain ⟨rfl, rfl⟩ := hG
  exact pe_mono (pe_un ho (ha G ⟨rfl, rfl⟩)) fun _ _ _ h => op1_of O h
theorem ve_ix {r : R2} {g : D → D → Option D} (hr : IxR X r) (O : Op2 B r g) (ha : VE B u X W a fa) (hb : VE B u X W b fb) (hs : PlainIx b) : VE B u X W (.Subscript a b pos) (eOp2 g fa fb) := by
  intro G hG
  obtain ⟨rfl, rfl⟩ := hG
  exact pe_mono (pe_ix hr (ha G ⟨rfl, rfl⟩) (hb G ⟨rfl, rfl⟩) hs) fun _ _ _ h => op2_of O h
def aNil : Af := fun _ s => .ok [] s
def aCons (fa : Ef) (fr : Af) : Af := fun ρ s => (fa ρ s).bind fun x s1 => (fr ρ s1).bind fun xs s2 => .ok (x :: xs) s2
theorem va_nil : VA B u X W [] aNil := by
  intro G hG
  exact pa_mono pa_nil fun _ _ _ ⟨Z, ρ, s, I, h⟩ => h [] Z _ I (Same.refl Z) .nil
theorem va_cons {e : Expr} {es : List Expr} {fe : Ef} {fr : Af} (he : VE B u X W e fe) (hr : VA B u X W es fr) (hs : starEach (e :: es) X.env = (false, eval e X.env) :: starEach es X.env := by rfl) : VA B u X W (e :: es) (aCons fe fr) := by
  intro G hG
  refine pa_mono (pa_cons (he G hG) (hr G hG) hs) fun σ H Q ⟨Z, ρ, s, I, h⟩ => ?_
  refine ⟨Z, ρ, s, I, h.bind.up (Same.refl Z) fun x s1 h1 v Z1 H1 I1 z1 rv => ?_⟩
  exact ⟨Z1, ρ, s1, I1, h1.bind.up z1 fun xs s2 h2 vs Z2 H2 I2 z2 rs => h2 (v :: vs) Z2 H2 I2 (z1.trans z2) (.cons (rv.mono z2) rs)⟩
def fit (n : Nat) : Bool := decide (n ≤ 100000)
theorem fit_le {n : Nat} (h : fit n = true) : n ≤ sizeLine := by
  have := of_decide_eq_true h
  rw [sizeLine_eq]; omega
theorem fit_lt {n : Nat} (h : fit n = true) : n < sizeLine := by
  have := of_decide_eq_true h
  rw [sizeLine_eq]; omega
def gTupD (ds : List D) : Option D := if fit ds.length then some (.tup ds) else none
def gLstD (ds : List D) : Option D := if fit ds.length then some (.lst ds) else none
theorem ite_some {α : Type} {c : Bool} {x y : α} (h : (if c then some x else none) = some y) : c = true ∧ x = y := by
  cases c with
  | true => exact ⟨rfl, Option.some.inj h⟩
  | false => cases h
theorem new_tup {Z H : Hp} {p : Addr} {xs : List V} {ds : List D} (z : Same Z H) (n : H p = none) (r : Rps B Z xs ds) : Rp B (upd Z p (.tup xs)) (.ref p) (.tup ds) :=
  .tup (SqT.of upd_same) (r.mono (same_new (Same.refl Z) (z.free n)))
theorem new_lst {Z H : Hp} {p : Addr} {xs : List V} {ds : List D} (z : Same Z H) (n : H p = none) (r : Rps B Z xs ds) : Rp B (upd Z p (.lst xs)) (.ref p) (.lst ds) :=
  .lst upd_same (r.mono (same_new (Same.refl Z) (z.free n)))
def rTup : List V → Hp → VK → Prop := fun xs H Q => xs.length ≤ sizeLine ∧ ∀ p, H p = none → Q (.ref p) (upd H p (.tup xs))
def rLst : List V → Hp → VK → Prop := fun xs H Q => xs.length ≤ sizeLine ∧ ∀ p, H p = none → Q (.ref p) (upd H p (.lst xs))
theorem ve_tup {es : List Expr} {k : Nat} {f : Af} (h : VA B u X W es f) : VE B u X W (.Tuple es k pos) (eOpN gTupD f) := by
  intro G hG
  obtain ⟨rfl, rfl⟩ := hG
  refine pe_mono (pe_tup (h G ⟨rfl, rfl⟩)) fun σ H Q hq => ?_
  refine opN_of (r := rTup) ⟨fun {Z H xs ds d Q} z r e k => ?_⟩ hq
  obtain ⟨f, rfl⟩ := ite_some e
  exact ⟨fit_le (by rw [r.len]; exact f), fun p n => k _ _ _ (Step.new _ z n) (new_tup z n r)⟩
theorem ve_lst {es : List Expr} {f : Af} (h : VA B u X W es f) : VE B u X W (.List es pos) (eOpN gLstD f) := by
  intro G hG
  obtain ⟨rfl, rfl⟩ := hG
  refine pe_mono (pe_lst (h G ⟨rfl, rfl⟩)) fun σ H Q hq => ?_
  refine opN_of (r := rLst) ⟨fun {Z H xs ds d Q} z r e k => ?_⟩ hq
  obtain ⟨f, rfl⟩ := ite_some e
  exact ⟨fit_le (by rw [r.len]; exact f), fun p n => k _ _ _ (Step.new _ z n) (new_lst z n r)⟩
def truD : D → Option Bool
  | .non => some false
  | .bl b => some b
  | .int i => some (i != 0)
  | .str l => if fit l.length then some (!l.isEmpty) else none
  | .tup l => some (!l.isEmpty)
  | .lst l => some (!l.isEmpty)
  | _ => none
def tT (f : Ef) : Tf := fun ρ s => (f ρ s).bind fun x s1 => opt (truD x) s1
theorem Rps.empty {Z : Hp} {vs : List V} {ds : List D} (r : Rps B Z vs ds) : vs.isEmpty = ds.isEmpty := by cases r <;> rfl
theorem tru_of {K : PySem.W.Frag} (hK : K = B.K) {Z H : Hp} {x : V} {d : D} {k : Bool} (z : Same Z H) (r : Rp B Z x d) (e : truD d = some k) : TruV K x H k := by
  subst hK
  cases r with
  | non => cases e; rfl
  | bl b => cases e; rfl
  | int i => cases e; rfl
  | str l =>
    obtain ⟨f, rfl⟩ := ite_some e
    refine ⟨fit_le (by rw [sOf_len]; exact f), ?_⟩
    rw [sOf_len]
    cases l with
    | nil => rfl
    | cons c l => rfl
  | ty n => cases e
  | dicK _ _ _ => cases e
  | cl c => cases e
  | tup h r => cases e; exact .inr (.inl ⟨_, seqT_mono z h, by rw [r.empty]⟩)
  | lst h r => cases e; exact .inl ⟨_, .inl (.inl (z _ _ h)), by rw [r.empty]⟩
  | obj h hl r => cases e
theorem vt_val (hK : X.K = B.K) (ha : VE B u X W a fa) (he : ∀ whole, isTrue a X.env whole = (do let v ← whole; standAt a.pos; holding [v] (truthy v))) : VT B u X W a (tT fa) := by
  intro G hG
  obtain ⟨rfl, rfl⟩ := hG
  refine pt_mono (pt_truth (ha G ⟨rfl, rfl⟩) he) fun σ H Q ⟨Z, ρ, s, I, h⟩ => ?_
  refine ⟨Z, ρ, s, I, h.bind.up (Same.refl Z) fun x s1 h1 v Z1 H1 I1 z1 rv => ?_⟩
  obtain ⟨k, e, q⟩ := h1.opt
  exact ⟨k, tru_of hK I1.zh rv e, q Z1 H1 I1 z1⟩
def blD : D → Option Bool
  | .bl b => some b
  | _ => none
def tB2 (f : Ef) : Tf := fun ρ s => (f ρ s).bind fun x s1 => opt (blD x) s1
theorem blD_of {Z : Hp} {x : V} {d : D} {k : Bool} (r : Rp B Z x d) (e : blD d = some k) : x = .bl k ∧ d = .bl k := by
  cases d <;> cases e
  cases r
  exact ⟨rfl, rfl⟩
theorem vt_cmp {op : CmpOp} {r : R2} {g : D → D → Option D} (ho : OpR X (compareOp op) r) (O : Op2 B r g) (ha : VE B u X W a fa) (hb : VE B u X W b fb) (hm : behindInMarks op b = false) : VT B u X W (.Compare a [op] [b] pos) (tB2 (eOp2 g fa fb)) := by
  intro G hG
  obtain ⟨rfl, rfl⟩ := hG
  refine pt_mono (pt_cmpR ho (ha G ⟨rfl, rfl⟩) (hb G ⟨rfl, rfl⟩) hm) fun σ H Q ⟨Z, ρ, s, I, h⟩ => ?_
  refine op2_of (Q := fun x H' => ∃ k, x = .bl k ∧ Q k H') O ⟨Z, ρ, s, I, h.bind.up (Same.refl Z) fun x s1 h1 v Z1 H1 I1 z1 rv => ?_⟩
  obtain ⟨k, e, q⟩ := h1.opt
  exact ⟨k, (blD_of rv e).1, q Z1 H1 I1 z1⟩
def tAndD (f g : Tf) : Tf := fun ρ s => (f ρ s).bind fun b s1 => if b then g ρ s1 else .ok false s1
def tOrD (f g : Tf) : Tf := fun ρ s => (f ρ s).bind fun b s1 => if b then .ok true s1 else g ρ s1
def tNotD (f : Tf) : Tf := fun ρ s => (f ρ s).bind fun b s1 => .ok (!b) s1
variable {ft fu : Tf} {rest : List Expr}
theorem VW.vt {e : Expr} (h : VW B u X W e ft) : VT B u X W e ft := fun G hG => (h G hG).pt
theorem vw_and1 (ha : VT B u X W a ft) : VW B u X W (.BoolOp .And [a] pos) ft := fun G hG => pw_and1 (ha G hG)
theorem vw_or1 (ha : VT B u X W a ft) : VW B u X W (.BoolOp .Or [a] pos) ft := fun G hG => pw_or1 (ha G hG)
theorem vw_and (ha : VT B u X W a ft) (hb : VW B u X W (.BoolOp .And (b :: rest) pos) fu) : VW B u X W (.BoolOp .And (a :: b :: rest) pos) (tAndD ft fu) := by
  intro G hG
  refine pw_mono (pw_and (ha G hG) (hb G hG)) fun σ H Q ⟨Z, ρ, s, I, h⟩ => ?_
  refine ⟨Z, ρ, s, I, h.bind.up (Same.refl Z) fun c s1 h1 Z1 H1 I1 z1 => ?_⟩
  cases c with
  | true => exact ⟨Z1, ρ, s1, I1, ROk.up (r := fu ρ s1) z1 h1 fun b s2 h2 Z2 H2 I2 z2 => h2 Z2 H2 I2 (z1.trans z2)⟩
  | false => exact h1 Z1 H1 I1 z1
theorem vw_or (ha : VT B u X W a ft) (hb : VW B u X W (.BoolOp .Or (b :: rest) pos) fu) : VW B u X W (.BoolOp .Or (a :: b :: rest) pos) (tOrD ft fu) := by
  intro G hG
  refine pw_mono (pw_or (ha G hG) (hb G hG)) fun σ H Q ⟨Z, ρ, s, I, h⟩ => ?_
  refine ⟨Z, ρ, s, I, h.bind.up (Same.refl Z) fun c s1 h1 Z1 H1 I1 z1 => ?_⟩
  cases c with
  | true => exact h1 Z1 H1 I1 z1
  | false => exact ⟨Z1, ρ, s1, I1, ROk.up (r := fu ρ s1) z1 h1 fun b s2 h2 Z2 H2 I2 z2 => h2 Z2 H2 I2 (z1.trans z2)⟩
theorem vt_not (ha : VT B u X W a ft) : VT B u X W (.UnaryOp .Not a pos) (tNotD ft) := by
  intro G hG
  refine pt_mono (pt_not (ha G hG)) fun σ H Q ⟨Z, ρ, s, I, h⟩ => ?_
  exact ⟨Z, ρ, s, I, h.bind⟩
/-- as values -/
def eAnd (f g : Ef) : Ef := fun ρ s => (f ρ s).bind fun x s1 => match x with
  | .bl true => g ρ s1
  | .bl false => .ok (.bl false) s1
  | _ => .bad
def eOr (f g : Ef) : Ef := fun ρ s => (f ρ s).bind fun x s1 => match x with
  | .bl true => .ok (.bl true) s1
  | .bl false => g ρ s1
  | _ => .bad
def notD : D → Option D
  | .bl b => some (.bl (!b))
  | _ => none
theorem ve_one {op} (h : VE B u X W a fa) : VE B u X W (.BoolOp op [a] pos) fa := fun G hG => pe_one (h G hG)
theorem ve_and (ha : VE B u X W a fa) (hb : VE B u X W (.BoolOp .And (b :: rest) pos) fb) : VE B u X W (.BoolOp .And (a :: b :: rest) pos) (eAnd fa fb) := by
  intro G hG
  obtain ⟨rfl, rfl⟩ := hG
  refine pe_mono (pe_and (ha G ⟨rfl, rfl⟩) (hb G ⟨rfl, rfl⟩)) fun σ H Q ⟨Z, ρ, s, I, h⟩ => ?_
  refine ⟨Z, ρ, s, I, h.bind.up (Same.refl Z) fun x s1 h1 v Z1 H1 I1 z1 rv => ?_⟩
  cases rv with
  | bl c =>
    cases c with
    | true => exact ⟨true, rfl, Z1, ρ, s1, I1, ROk.up (r := fb ρ s1) z1 h1 fun b s2 h2 v Z2 H2 I2 z2 => h2 v Z2 H2 I2 (z1.trans z2)⟩
    | false => exact ⟨false, rfl, h1 _ Z1 H1 I1 z1 (.bl false)⟩
  | _ => exact h1.elim
theorem ve_not (ha : VE B u X W a fa) : VE B u X W (.UnaryOp .Not a pos) (eOp1 notD fa) := by
  intro G hG
  obtain ⟨rfl, rfl⟩ := hG
  refine pe_mono (pe_not (ha G ⟨rfl, rfl⟩)) fun σ H Q ⟨Z, ρ, s, I, h⟩ => ?_
  refine ⟨Z, ρ, s, I, h.bind.up (Same.refl Z) fun x s1 h1 v Z1 H1 I1 z1 rv => ?_⟩
  obtain ⟨d, e, q⟩ := h1.opt
  cases rv with
  | bl c => cases e; exact ⟨c, rfl, q _ Z1 H1 I1 z1 (.bl _)⟩
  | _ => cases e
def eIf (c : Tf) (f g : Ef) : Ef := fun ρ s => (c ρ s).bind fun b s1 => if b then f ρ s1 else g ρ s1
theorem ve_if {c : Expr} (hc : VT B u X W c ft) (ha : VE B u X W a fa) (hb : VE B u X W b fb) : VE B u X W (.IfExp c a b pos) (eIf ft fa fb) := by
  intro G hG
  refine pe_mono (pe_ifExp (hc G hG) (ha G hG) (hb G hG)) fun σ H Q ⟨Z, ρ, s, I, h⟩ => ?_
  refine ⟨Z, ρ, s, I, h.bind.up (Same.refl Z) fun c s1 h1 Z1 H1 I1 z1 => ?_⟩
  cases c with
  | true => exact ⟨Z1, ρ, s1, I1, ROk.up (r := fa ρ s1) z1 h1 fun b s2 h2 v Z2 H2 I2 z2 => h2 v Z2 H2 I2 (z1.trans z2)⟩
  | false => exact ⟨Z1, ρ, s1, I1, ROk.up (r := fb ρ s1) z1 h1 fun b s2 h2 v Z2 H2 I2 z2 => h2 v Z2 H2 I2 (z1.trans z2)⟩
end
end Vv
namespace Vv
def SOk (G : Gf) (W : WX) (Z : Hp) (D' : Ends) : SR → Prop
  | .nx ρ s => ∀ σ Z' H, VI G Z' H σ ρ s → Same Z Z' → D'.nx σ H
  | .bk ρ s => ∀ σ Z' H, VI G Z' H σ ρ s → Same Z Z' → D'.bk σ H
  | .ct ρ s => ∀ σ Z' H, VI G Z' H σ ρ s → Same Z Z' → D'.ct σ H
  | .rt d s => ∀ v σ ρ Z' H, VI G Z' H σ ρ s → Same Z Z' → Rp G.B Z' v d → D'.rt v H
  | .exc c fs ρ s => ∀ σ, ExOk G W σ ρ Z c fs s
  | .bad => False
def tVS (G : Gf) (W : WX) (g : Sf) : TS := fun D' σ H => ∃ Z ρ s, VI G Z H σ ρ s ∧ SOk G W Z D' (g ρ s)
def VS (B : Tb) (u : Option (Addr × Value × Option Addr)) (X : Cx) (W : WX) (st : Stmt) (g : Sf) : Prop := ∀ G : Gf, G.B = B ∧ G.ux = u → PS X st (tVS G W g)
def VSs (B : Tb) (u : Option (Addr × Value × Option Addr)) (X : Cx) (W : WX) (st : List Stmt) (g : Sf) : Prop := ∀ G : Gf, G.B = B ∧ G.ux = u → PSs X st (tVS G W g)
theorem ps_mono {X : Cx} {st : Stmt} {t t' : TS} (h : PS X st t) (m : ∀ D' σ H, t' D' σ H → t D' σ H) : PS X st t' := ⟨fun pins s σ H D' I q => h.run pins s σ H D' I (m D' σ H q)⟩
theorem pss_mono {X : Cx} {st : List Stmt} {t t' : TS} (h : PSs X st t) (m : ∀ D' σ H, t' D' σ H → t D' σ H) : PSs X st t' := ⟨fun pins s σ H D' I q => h.run pins s σ H D' I (m D' σ H q)⟩
section
variable {G : Gf} {W : WX} {Z Z1 : Hp} {D1 : Ends}
theorem SOk.up {r : SR} (z : Same Z Z1) (h : SOk G W Z D1 r) : SOk G W Z1 D1 r := by
  cases r with
  | nx ρ s => exact fun σ Z' H I z1 => h σ Z' H I (z.trans z1)
  | bk ρ s => exact fun σ Z' H I z1 => h σ Z' H I (z.trans z1)
  | ct ρ s => exact fun σ Z' H I z1 => h σ Z' H I (z.trans z1)
  | rt d s => exact fun v σ ρ Z' H I z1 => h v σ ρ Z' H I (z.trans z1)
  | exc c fs ρ s => exact fun σ => (h σ).up z
  | bad => exact h
theorem SOk.then {r : SR} {k : En → S → SR} {D2 : Ends} (h : SOk G W Z D1 (r.then k)) (hr : D2.rt = D1.rt) (hb : D2.bk = D1.bk) (hc : D2.ct = D1.ct)
    (hn : ∀ ρ s, SOk G W Z D1 (k ρ s) → ∀ σ Z' H, VI G Z' H σ ρ s → Same Z Z' → D2.nx σ H) : SOk G W Z D2 r := by
  cases r with
  | nx ρ s => exact hn ρ s h
  | bk ρ s => exact fun σ Z' H I z => hb ▸ h σ Z' H I z
  | ct ρ s => exact fun σ Z' H I z => hc ▸ h σ Z' H I z
  | rt d s => exact fun v σ ρ Z' H I z r => hr ▸ h v σ ρ Z' H I z r
  | exc c fs ρ s => exact h
  | bad => exact h
theorem SOk.from {α : Type} {r : R α} {ρ : En} {k : α → S → SR} (h : SOk G W Z D1 (r.then ρ k)) (σ : L2.St) : ROk G W σ ρ Z r fun x s => SOk G W Z D1 (k x s) := by
  cases r with
  | ok x s => exact h
  | exc c fs s => exact h σ
  | bad => exact h
end
section
variable {B : Tb} {u : Option (Addr × Value × Option Addr)} {X : Cx} {W : WX} {st : Stmt} {rest : List Stmt} {g g' : Sf} {e : Expr} {f : Ef} {pos : Pos}
def sNil : Sf := fun ρ s => .nx ρ s
def sSeq (g g' : Sf) : Sf := fun ρ s => (g ρ s).then g'
theorem vss_nil : VSs B u X W [] sNil := fun _ _ => pss_mono pss_nil fun _ _ _ ⟨Z, ρ, s, I, h⟩ => h _ Z _ I (Same.refl Z)
theorem vss_cons (h1 : VS B u X W st g) (h2 : VSs B u X W rest g') : VSs B u X W (st :: rest) (sSeq g g') := by
  intro G hG
  refine pss_mono (pss_cons (h1 G hG) (h2 G hG)) fun D' σ H ⟨Z, ρ, s, I, h⟩ => ?_
  exact ⟨Z, ρ, s, I, SOk.then (r := g ρ s) h rfl rfl rfl fun ρ' s' h' σ' Z' H' I' z => ⟨Z', ρ', s', I', h'.up z⟩⟩
theorem vss_one (h : VS B u X W st g) : VSs B u X W [st] g := fun G hG => pss_one (h G hG)
def sRet (f : Ef) : Sf := fun ρ s => (f ρ s).then ρ fun d s1 => .rt d s1
theorem vs_ret (h : VE B u X W e f) : VS B u X W (.Return (some e) pos) (sRet f) := by
  intro G hG
  refine ps_mono (ps_ret (h G hG)) fun D' σ H ⟨Z, ρ, s, I, h⟩ => ⟨Z, ρ, s, I, (SOk.from h σ).up (Same.refl Z) fun d s1 h1 v Z' H' I' z r => h1 v σ ρ Z' H' I' z r⟩
def sRetN : Sf := fun _ s => .rt .non s
def sExpr (f : Ef) : Sf := fun ρ s => (f ρ s).then ρ fun _ s1 => .nx ρ s1
theorem vs_expr (h : VE B u X W e f) (hs : swapsWith e none pos.line X.env = pure false := by rfl) : VS B u X W (.Expr e pos) (sExpr f) := by
  intro G hG
  refine ps_mono (ps_expr (h G hG) hs) fun D' σ H ⟨Z, ρ, s, I, h⟩ => ⟨Z, ρ, s, I, (SOk.from h σ).up (Same.refl Z) fun d s1 h1 v Z' H' I' z r => h1 σ Z' H' I' z⟩
def sIf (c : Tf) (g g' : Sf) : Sf := fun ρ s => (c ρ s).then ρ fun b s1 => if b then g ρ s1 else g' ρ s1
theorem vs_if {c : Expr} {a b : List Stmt} {fc : Tf} (hc : VT B u X W c fc) (ha : VSs B u X W a g) (hb : VSs B u X W b g') : VS B u X W (.If c a b pos) (sIf fc g g') := by
  intro G hG
  refine ps_mono (ps_if (hc G hG) (ha G hG) (hb G hG)) fun D' σ H ⟨Z, ρ, s, I, h⟩ => ⟨Z, ρ, s, I, (SOk.from h σ).up (Same.refl Z) fun c s1 h1 Z' H' I' z => ?_⟩
  cases c with
  | true => exact ⟨Z', ρ, s1, I', SOk.up z (show SOk G W Z D' (g ρ s1) from h1)⟩
  | false => exact ⟨Z', ρ, s1, I', SOk.up z (show SOk G W Z D' (g' ρ s1) from h1)⟩
def wipeE (ρ : En) : List Nat → En
  | [] => ρ
  | v :: vs => (wipeE ρ vs).set v .no
def WpE (is : List Nat) (ρ ρ' : En) : Prop := ∀ vs : List Nat, (∀ i ∈ is, i ∈ vs) → wipeE ρ' vs = wipeE ρ vs
def Wp (is : List Nat) (σ σ' : L2.St) : Prop := ∀ vs : List Nat, (∀ i ∈ is, i ∈ vs) → wipe σ' vs = wipe σ vs
def VGok (B : Tb) (is : List Nat) (g : TG) (gt : D → En → Option En) : Prop := ∀ (G : Gf) (Z H : Hp) (σ : L2.St) (ρ : En) (s : S) (v : V) (d : D) (ρ' : En) (Q : L2.St → Hp → Prop), G.B = B → VI G Z H σ ρ s → Rp B Z v d → gt d ρ = some ρ' → (∀ σ', VI G Z H σ' ρ' s → Wp is σ σ' → WpE is ρ ρ' → Q σ' H) → g v σ H Q
def VG (B : Tb) (X : Cx) (is : List Nat) (tg : Expr) (gt : D → En → Option En) : Prop := ∃ g, PG X tg g ∧ VGok B is g gt
def VGsok (B : Tb) (is : List Nat) (g : TGs) (gt : List D → En → Option En) : Prop := ∀ (G : Gf) (Z H : Hp) (σ : L2.St) (ρ : En) (s : S) (vs : List V) (ds : List D) (ρ' : En) (Q : L2.St → Hp → Prop), G.B = B → VI G Z H σ ρ s → Rps B Z vs ds → gt ds ρ = some ρ' → (∀ σ', VI G Z H σ' ρ' s → Wp is σ σ' → WpE is ρ ρ' → Q σ' H) → g vs σ H Q
def VGs (B : Tb) (X : Cx) (is : List Nat) (tgs : List Expr) (gt : List D → En → Option En) : Prop := ∃ g, PGs X tgs g ∧ VGsok B is g gt
def gtN (i : Nat) : D → En → Option En := fun d ρ => some (ρ.set i (.val d))
def gtNil : List D → En → Option En := fun ds ρ => if ds.isEmpty then some ρ else none
def gtCons (gt : D → En → Option En) (gr : List D → En → Option En) : List D → En → Option En
  | [], _ => none
  | d :: ds, ρ => (gt d ρ).bind fun ρ' => gr ds ρ'
def gtT (n : Nat) (gt : List D → En → Option En) : D → En → Option En
  | .tup ds, ρ => if ds.length = n then gt ds ρ else none
  | _, _ => none
theorem set_comm2 {α : Type} {l : List α} {x y : α} {i j : Nat} (n : i ≠ j) : (l.set i x).set j y = (l.set j y).set i x := by
  refine List.ext_getElem? fun k => ?_
  by_cases a : j = k
  · subst a
    by_cases b : j < l.length
    · rw [List.getElem?_set_self (by rw [List.length_set]; exact b), List.getElem?_set_ne n, List.getElem?_set_self b]
    · rw [List.getElem?_eq_none (by rw [List.length_set, List.length_set]; omega), List.getElem?_eq_none (by rw [List.length_set, List.length_set]; omega)]
  · rw [List.getElem?_set_ne a]
    by_cases c : i = k
    · subst c
      by_cases b : i < l.length
      · rw [List.getElem?_set_self b, List.getElem?_set_self (by rw [List.length_set]; exact b)]
      · rw [List.getElem?_eq_none (by rw [List.length_set]; omega), List.getElem?_eq_none (by rw [List.length_set, List.length_set]; omega)]
    · rw [List.getElem?_set_ne c, List.getElem?_set_ne c, List.getElem?_set_ne a]
theorem set_twice {α : Type} {l : List α} {x y : α} {i : Nat} : (l.set i x).set i y = l.set i y := List.set_set ..
theorem wipe_set1 {σ : L2.St} {i : Nat} {x : Option V} : ∀ vs : List Nat, (i ∉ vs → wipe (σ.set i x) vs = (wipe σ vs).set i x) ∧ (i ∈ vs → wipe (σ.set i x) vs = wipe σ vs)
  | [] => ⟨fun _ => rfl, fun h => by simp at h⟩
  | v :: vs => by
    obtain ⟨h1, h2⟩ := wipe_set1 (σ := σ) (i := i) (x := x) vs
    refine ⟨fun n => ?_, fun m => ?_⟩
    · have a : i ≠ v := fun e => n (by rw [e]; exact List.mem_cons_self)
      show (wipe (σ.set i x) vs).set v none = ((wipe σ vs).set v none).set i x
      rw [h1 fun q => n (List.mem_cons_of_mem _ q), set_comm2 a]
    · show (wipe (σ.set i x) vs).set v none = (wipe σ vs).set v none
      by_cases e : i ∈ vs
      · rw [h2 e]
      · have e2 : i = v := (List.mem_cons.mp m).resolve_right e
        rw [h1 e, e2, set_twice]
theorem wipe_set {σ : L2.St} {i : Nat} {x : Option V} {vs : List Nat} (h : i ∈ vs) : wipe (σ.set i x) vs = wipe σ vs := (wipe_set1 vs).2 h
theorem wipeE_set1 {ρ : En} {i : Nat} {x : Sl} : ∀ vs : List Nat, (i ∉ vs → wipeE (ρ.set i x) vs = (wipeE ρ vs).set i x) ∧ (i ∈ vs → wipeE (ρ.set i x) vs = wipeE ρ vs)
  | [] => ⟨fun _ => rfl, fun h => by simp at h⟩
  | v :: vs => by
    obtain ⟨h1, h2⟩ := wipeE_set1 (ρ := ρ) (i := i) (x := x) vs
    refine ⟨fun n => ?_, fun m => ?_⟩
    · have a : i ≠ v := fun e => n (by rw [e]; exact List.mem_cons_self)
      show (wipeE (ρ.set i x) vs).set v Sl.no = ((wipeE ρ vs).set v Sl.no).set i x
      rw [h1 fun q => n (List.mem_cons_of_mem _ q), set_comm2 a]
    · show (wipeE (ρ.set i x) vs).set v Sl.no = (wipeE ρ vs).set v Sl.no
      by_cases e : i ∈ vs
      · rw [h2 e]
      · have e2 : i = v := (List.mem_cons.mp m).resolve_right e
        rw [h1 e, e2, set_twice]
theorem wipeE_set {ρ : En} {i : Nat} {x : Sl} {vs : List Nat} (h : i ∈ vs) : wipeE (ρ.set i x) vs = wipeE ρ vs := (wipeE_set1 vs).2 h
theorem WpE.set {i : Nat} {ρ : En} {x : Sl} : WpE [i] ρ (ρ.set i x) := fun _ h => wipeE_set (h i List.mem_cons_self)
theorem WpE.refl {is : List Nat} {ρ : En} : WpE is ρ ρ := fun _ _ => rfl
theorem WpE.app {is js : List Nat} {ρ ρ1 ρ2 : En} (a : WpE is ρ ρ1) (b : WpE js ρ1 ρ2) : WpE (is ++ js) ρ ρ2 := fun vs h => (b vs fun i hi => h i (List.mem_append_right _ hi)).trans (a vs fun i hi => h i (List.mem_append_left _ hi))
theorem Wp.set {i : Nat} {σ : L2.St} {x : Option V} : Wp [i] σ (σ.set i x) := fun _ h => wipe_set (h i List.mem_cons_self)
theorem Wp.refl {is : List Nat} {σ : L2.St} : Wp is σ σ := fun _ _ => rfl
theorem Wp.app {is js : List Nat} {σ σ1 σ2 : L2.St} (a : Wp is σ σ1) (b : Wp js σ1 σ2) : Wp (is ++ js) σ σ2 := fun vs h => (b vs fun i hi => h i (List.mem_append_right _ hi)).trans (a vs fun i hi => h i (List.mem_append_left _ hi))
theorem gtN_ok {i : Nat} : VGok B [i] (gName i) (gtN i) := fun G Z H σ ρ s v d ρ' Q hB I r e k => by
  subst hB
  cases e
  exact k _ (I.setVal r) Wp.set WpE.set
theorem vg_n (i : Nat) {x : Str} (hN : X.N.Nodup) (hi : X.N[i]? = some x := by rfl) (hx : Loc X.env.scope x := by first | exact Or.inl rfl | exact Or.inr rfl) (hf : X.fn x = true ∨ X.env.scope.names.lookup x = some .local := by first | exact .inl rfl | exact .inr rfl | assumption) : VG B X [i] (.Name x pos) (gtN i) :=
  ⟨_, pg_name hN hi hx hf, gtN_ok⟩
theorem gtNil_ok : VGsok B [] gNil gtNil := fun G Z H σ ρ s vs ds ρ' Q hB I r e k => by
  cases r with
  | nil => cases e; exact ⟨rfl, k _ I Wp.refl WpE.refl⟩
  | cons h r => cases e
theorem vgs_nil : VGs B X [] [] gtNil := ⟨_, pgs_nil, gtNil_ok⟩
theorem gtCons_ok {is js : List Nat} {g : TG} {gr : TGs} {gt : D → En → Option En} {gs : List D → En → Option En} (h1 : VGok B is g gt) (h2 : VGsok B js gr gs) : VGsok B (is ++ js) (gCons g gr) (gtCons gt gs) := fun G Z H σ ρ s vs ds ρ' Q hB I r e k => by
  cases r with
  | nil => cases e
  | @cons v d vs ds h r =>
    obtain ⟨ρ1, e1, e2⟩ := Option.bind_eq_some_iff.mp (show (gt d ρ).bind (fun ρ' => gs ds ρ') = some ρ' from e)
    exact ⟨v, vs, rfl, h1 G Z H σ ρ s v d ρ1 _ hB I h e1 fun σ1 I1 w1 v1 => h2 G Z H σ1 ρ1 s vs ds ρ' Q hB I1 r e2 fun σ2 I2 w2 v2 => k σ2 I2 (w1.app w2) (v1.app v2)⟩
theorem vgs_cons {is js : List Nat} {e : Expr} {es : List Expr} {gt : D → En → Option En} {gs : List D → En → Option En} (h1 : VG B X is e gt) (h2 : VGs B X js es gs)
    (hs : (assignEach (e :: es) X.env).map (·.2) = assign e X.env :: (assignEach es X.env).map (·.2) := by rfl) : VGs B X (is ++ js) (e :: es) (gtCons gt gs) := by
  obtain ⟨g, p, o⟩ := h1
  obtain ⟨gr, p2, o2⟩ := h2
  exact ⟨_, pgs_cons p p2 hs, gtCons_ok o o2⟩
theorem rp_tup {Z : Hp} {v : V} {ds : List D} (r : Rp B Z v (.tup ds)) : ∃ a vs, v = .ref a ∧ SqT B.K Z a vs ∧ Rps B Z vs ds := by
  cases r with
  | tup h r => exact ⟨_, _, rfl, h, r⟩
theorem rp_lst {Z : Hp} {v : V} {ds : List D} (r : Rp B Z v (.lst ds)) : ∃ a vs, v = .ref a ∧ Z a = some (.lst vs) ∧ Rps B Z vs ds := by
  cases r with
  | lst h r => exact ⟨_, _, rfl, h, r⟩
theorem vg_t {is : List Nat} {es : List Expr} {k n : Nat} {gt : List D → En → Option En} (hK : X.K = B.K) (hc : X.calm = true) (h : VGs B X is es gt)
    (hn : (assignEach es X.env).length = n := by rfl) (hst : (assignEach es X.env).findIdx? (·.1) = none := by rfl) : VG B X is (.Tuple es k pos) (gtT n gt) := by
  obtain ⟨g, p, o⟩ := h
  refine ⟨_, pg_tup hc p hn hst, fun G Z H σ ρ s v d ρ' Q hB I r e k => ?_⟩
  cases d with
  | tup ds =>
    obtain ⟨a, vs, rfl, ht, rs⟩ := rp_tup r
    by_cases hl : ds.length = n
    · rw [show gtT n gt (.tup ds) ρ = if ds.length = n then gt ds ρ else none from rfl, if_pos hl] at e
      refine ⟨a, vs, rfl, by rw [hK]; exact seqT_mono I.zh ht, rs.len.trans hl, o G Z H σ ρ s vs ds ρ' Q hB I rs e k⟩
    · rw [show gtT n gt (.tup ds) ρ = if ds.length = n then gt ds ρ else none from rfl, if_neg hl] at e
      cases e
  | _ => cases e
def sAsg (f : Ef) (gt : D → En → Option En) : Sf := fun ρ s => (f ρ s).then ρ fun d s1 => match gt d ρ with
  | some ρ' => .nx ρ' s1
  | none => .bad
theorem asg_of {is : List Nat} {G : Gf} {gt : D → En → Option En} {tg : TG} (o : VGok G.B is tg gt) {D' : Ends} {σ : L2.St} {H : Hp} (h : tVS G W (sAsg f gt) D' σ H) : tAsg (tV G W f) tg D' σ H := by
  obtain ⟨Z, ρ, s, I, h⟩ := h
  refine ⟨Z, ρ, s, I, (SOk.from h σ).up (Same.refl Z) fun d s1 h1 v Z' H' I' z r => ?_⟩
  cases e : gt d ρ with
  | none => rw [e] at h1; exact h1.elim
  | some ρ' =>
    rw [e] at h1
    exact o G Z' H' σ ρ s1 v d ρ' D'.nx rfl I' r e fun σ' I2 _ _ => h1 σ' Z' H' I2 z
theorem vs_asg {is : List Nat} {tg : Expr} {gt : D → En → Option En} (he : VE B u X W e f) (hg : VG B X is tg gt) (hs : swapsWithSole [tg] e pos.line X.env = pure false := by rfl) (hw : swappedStores [tg] e X.env = pure none := by rfl)
    (h1 : (assignEach [tg] X.env).map (·.2) = [assign tg X.env] := by rfl) : VS B u X W (.Assign [tg] e pos) (sAsg f gt) := by
  intro G hG
  obtain ⟨g, p, o⟩ := hg
  obtain ⟨rfl, rfl⟩ := hG
  exact ps_mono (ps_asg (he G ⟨rfl, rfl⟩) p hs hw h1) fun D' σ H h => asg_of o h
theorem vs_set (i : Nat) {x : Str} {pos' : Pos} (hN : X.N.Nodup) (he : VE B u X W e f) (hi : X.N[i]? = some x := by rfl) (hx : Loc X.env.scope x := by first | exact Or.inl rfl | exact Or.inr rfl) (hs : swapsWith e (some (.Name x pos')) pos.line X.env = pure false := by rfl)
    (hf : X.fn x = true ∨ X.env.scope.names.lookup x = some .local := by first | exact .inl rfl | exact .inr rfl | assumption) : VS B u X W (.Assign [.Name x pos'] e pos) (sAsg f (gtN i)) := by
  intro G hG
  obtain ⟨rfl, rfl⟩ := hG
  exact ps_mono (ps_set (i := i) hN hi hx (he G ⟨rfl, rfl⟩) hs hf) fun D' σ H h => asg_of gtN_ok h
end
end Vv
namespace Vv
/-- an iterator that yields the things ds, laid into what grows out of Z -/
def WalkD (B : Tb) (J : It) (Z0 : Hp) (ds : List D) : Prop := ∃ Y : Nat → Hp → V → Hp → Prop, Walk J ds.length (fun H => Same Z0 H) Y ∧
  ∀ i H v H', Y i H v H' → ∀ Z, Same Z0 Z → Same Z H → ∃ d Z', ds[i]? = some d ∧ Step Z H Z' H' ∧ Rp B Z' v d
def tVI (G : Gf) (W : WX) (fi : Af) : TI := fun σ H Rr => ∃ Z ρ s, VI G Z H σ ρ s ∧ ROk G W σ ρ Z (fi ρ s) fun ds s' => ∀ J Z' H', VI G Z' H' σ ρ s' → Same Z Z' → WalkD G.B J Z' ds → Rr J H'
def VIt (B : Tb) (u : Option (Addr × Value × Option Addr)) (X : Cx) (W : WX) (tg iter : Expr) (fi : Af) : Prop := ∀ G : Gf, G.B = B ∧ G.ux = u → PI X tg iter (tVI G W fi)
theorem pi_mono {X : Cx} {tg iter : Expr} {t t' : TI} (h : PI X tg iter t) (m : ∀ σ H Q, t' σ H Q → t σ H Q) : PI X tg iter t' := ⟨fun pins s σ H Q I q => h.run pins s σ H Q I (m σ H Q q)⟩
def loopD (gt : D → En → Option En) (gb : Sf) : List D → En → S → SR
  | [], ρ, s => .nx ρ s
  | d :: ds, ρ, s => match gt d ρ with
    | none => .bad
    | some ρ1 => match gb ρ1 s with
      | .nx ρ2 s2 => loopD gt gb ds ρ2 s2
      | .ct ρ2 s2 => loopD gt gb ds ρ2 s2
      | .bk ρ2 s2 => .nx ρ2 s2
      | r => r
def sFor (fi : Af) (gt : D → En → Option En) (gb : Sf) : Sf := fun ρ s => (fi ρ s).then ρ fun ds s1 => loopD gt gb ds ρ s1
theorem drop_cons {α : Type} {l : List α} {i : Nat} {d : α} (h : l[i]? = some d) : l.drop i = d :: l.drop (i + 1) := by
  obtain ⟨hi, e⟩ := List.getElem?_eq_some_iff.mp h
  rw [List.drop_eq_getElem_cons hi, e]
section
variable {B : Tb} {u : Option (Addr × Value × Option Addr)} {X : Cx} {W : WX} {pos : Pos}
theorem for_of {is : List Nat} {G : Gf} {J : It} {Z0 : Hp} {ds : List D} {gt : D → En → Option En} {gb : Sf} {g : TG} (w : WalkD G.B J Z0 ds) (o : VGok G.B is g gt) {D' : Ends} {σ : L2.St} {H : Hp} {ρ : En} {s : S} (I : VI G Z0 H σ ρ s)
    (h : SOk G W Z0 D' (loopD gt gb ds ρ s)) : ∃ Wv : Nat → Nat → L2.St → Hp → Prop, (∃ m, Wv 0 m σ H) ∧ ∀ i m σ H, Wv i m σ H →
  (J.stop i H ∧ D'.nx σ H) ∨ (J.go i H ∧ ∃ N : L2.St → Hp → Prop, (∀ σ' H', N σ' H' → ∃ m', m' < m ∧ Wv (i + 1) m' σ' H') ∧ ∀ x H', J.yld i H x H' → g x σ H' fun σ2 H2 => tVS G W gb { D' with nx := N, ct := N, bk := D'.nx } σ2 H2) := by
  obtain ⟨Y, wk, y⟩ := w
  refine for_it wk (fun i σ H => ∃ Z ρ s, VI G Z H σ ρ s ∧ Same Z0 Z ∧ SOk G W Z D' (loopD gt gb (ds.drop i) ρ s)) ⟨Z0, ρ, s, I, Same.refl Z0, h⟩ (fun i σ H _ ⟨Z, ρ, s, I, z, _⟩ => z.trans I.zh) ?_ ?_
  · rintro i x σ H H' hi ⟨Z, ρ, s, I, z, h⟩ hy
    obtain ⟨d, Z', ed, t, r⟩ := y i H x H' hy Z z I.zh
    rw [drop_cons ed] at h
    show g x σ H' _
    cases e : gt d ρ with
    | none => simp only [loopD, e] at h; exact h.elim
    | some ρ1 =>
      simp only [loopD, e] at h
      refine o G Z' H' σ ρ s x d ρ1 _ rfl (I.step t) r e fun σ' I' _ _ => ⟨Z', ρ1, s, I', ?_⟩
      cases eb : gb ρ1 s with
      | nx ρ2 s2 =>
        rw [eb] at h
        exact fun σ2 Z2 H2 I2 z2 => ⟨Z2, ρ2, s2, I2, z.trans (t.zz.trans z2), SOk.up (t.zz.trans z2) h⟩
      | ct ρ2 s2 =>
        rw [eb] at h
        exact fun σ2 Z2 H2 I2 z2 => ⟨Z2, ρ2, s2, I2, z.trans (t.zz.trans z2), SOk.up (t.zz.trans z2) h⟩
      | bk ρ2 s2 =>
        rw [eb] at h
        exact fun σ2 Z2 H2 I2 z2 => h σ2 Z2 H2 I2 (t.zz.trans z2)
      | rt d2 s2 =>
        rw [eb] at h
        exact fun v σ2 ρ2 Z2 H2 I2 z2 => h v σ2 ρ2 Z2 H2 I2 (t.zz.trans z2)
      | exc c fs ρ2 s2 =>
        rw [eb] at h
        exact fun σ2 => (h σ2).up t.zz
      | bad => rw [eb] at h; exact h.elim
  · rintro σ H ⟨Z, ρ, s, I, z, h⟩
    rw [List.drop_length] at h
    exact h σ Z H I (Same.refl Z)
theorem vs_for {is : List Nat} {tg iter : Expr} {body : List Stmt} {fi : Af} {gt : D → En → Option En} {gb : Sf} (hp : PassesOwn (model X.prog X.w) X.A X.env X.xe) (hc : X.calm = true) (hi : VIt B u X W tg iter fi) (hg : VG B X is tg gt) (hb : VSs B u X W body gb)
    (hs : ∀ x, foldedSetIterable iter X.env x = pure x := by intro _; rfl) : VS B u X W (.For tg iter body [] pos) (sFor fi gt gb) := by
  intro G hG
  obtain ⟨g, p, o⟩ := hg
  obtain ⟨rfl, rfl⟩ := hG
  refine ps_mono (ps_for hp hc (hi G ⟨rfl, rfl⟩) p (hb G ⟨rfl, rfl⟩) hs) fun D' σ H ⟨Z, ρ, s, I, h⟩ => ?_
  exact ⟨Z, ρ, s, I, (SOk.from h σ).up (Same.refl Z) fun ds s1 h1 J Z' H' I' z w => for_of w o I' (SOk.up z h1)⟩
def itD : D → Option (List D)
  | .lst l => some l
  | .tup l => some l
  | .str l => some (l.map fun c => .str [c])
  | _ => none
def iIt (f : Ef) : Af := fun ρ s => (f ρ s).bind fun d s1 => opt (itD d) s1
theorem walkD_lst {Z0 : Hp} {a : Addr} {vs : List V} {ds : List D} (h : Z0 a = some (.lst vs)) (r : Rps B Z0 vs ds) : WalkD B (Itl B.K a) Z0 ds := by
  refine ⟨YAt vs, r.len ▸ (walk_list (K := B.K) (a := a) (xs := vs)).mono (fun H z => .inl (.inl (z _ _ h))) (fun _ _ _ _ _ _ y => y), fun i H v H' y Z z zh => ?_⟩
  obtain ⟨rfl, e⟩ := y
  obtain ⟨d, ed, rd⟩ := r.at2 e
  exact ⟨d, Z, ed, Step.refl zh, rd.mono z⟩
theorem walkD_tup {Z0 : Hp} {a : Addr} {vs : List V} {ds : List D} (h : SqT B.K Z0 a vs) (r : Rps B Z0 vs ds) : WalkD B (Itt B.K a) Z0 ds := by
  refine ⟨YAt vs, r.len ▸ (walk_tup (K := B.K) (a := a) (xs := vs)).mono (fun H z => seqT_mono z h) (fun _ _ _ _ _ _ y => y), fun i H v H' y Z z zh => ?_⟩
  obtain ⟨rfl, e⟩ := y
  obtain ⟨d, ed, rd⟩ := r.at2 e
  exact ⟨d, Z, ed, Step.refl zh, rd.mono z⟩
theorem walkD_range {Z0 : Hp} {lo : Int} {n : Nat} : WalkD B (Itr lo n) Z0 ((List.range n).map fun (i : Nat) => .int (lo + (i : Int))) := by
  refine ⟨fun i H v H' => i < n ∧ H' = H ∧ v = .int (lo + i), ?_, fun i H v H' y Z z zh => ?_⟩
  · rw [List.length_map, List.length_range]
    exact ⟨fun _ _ hi _ => hi, fun _ _ => Nat.le_refl _, fun _ _ _ _ hi _ y => ⟨hi, y.1, y.2⟩⟩
  · obtain ⟨hi, rfl, rfl⟩ := y
    exact ⟨.int (lo + i), Z, by rw [List.getElem?_map, List.getElem?_range hi]; rfl, Step.refl zh, .int _⟩
theorem walkD_str {Z0 : Hp} {l : List Nat} : WalkD B (Its (sOf l)) Z0 (l.map fun c => .str [c]) := by
  refine ⟨fun i H v H' => H' = H ∧ ∃ c, l[i]? = some c ∧ v = .str (sOf [c]), ?_, fun i H v H' y Z z zh => ?_⟩
  · rw [List.length_map]
    exact walk_S.mono (fun _ _ => trivial) (fun _ _ _ _ _ _ y => y)
  · obtain ⟨rfl, c, e, rfl⟩ := y
    exact ⟨.str [c], Z, by rw [List.getElem?_map, e]; rfl, Step.refl zh, .str _⟩
end
end Vv
namespace Vv
theorem pi_or {X : Cx} {tg iter : Expr} {w1 w2 : TI} (h1 : PI X tg iter w1) (h2 : PI X tg iter w2) : PI X tg iter (fun σ H Rr => w1 σ H Rr ∨ w2 σ H Rr) :=
  ⟨fun pins s σ H Q I q => q.elim (fun q => h1.run pins s σ H Q I q) fun q => h2.run pins s σ H Q I q⟩
def enumF : Nat → List D → List D
  | _, [] => []
  | k, x :: r => .tup [.int (k : Int), x] :: enumF (k + 1) r
theorem enumF_len : ∀ (k : Nat) (l : List D), (enumF k l).length = l.length
  | _, [] => rfl
  | k, _ :: r => congrArg Nat.succ (enumF_len (k + 1) r)
theorem enumF_at : ∀ (k : Nat) (l : List D) (i : Nat), (enumF k l)[i]? = (l[i]?).map fun x => .tup [.int ((k + i : Nat) : Int), x]
  | _, [], _ => rfl
  | k, x :: r, 0 => rfl
  | k, x :: r, i + 1 => by
    show (enumF (k + 1) r)[i]? = _
    rw [enumF_at (k + 1) r i, show k + 1 + i = k + (i + 1) by omega]
    rfl
def iEnum (fa : Af) : Af := fun ρ s => (fa ρ s).bind fun ds s1 => match ds with
  | [d] => opt ((itD d).map (enumF 0)) s1
  | _ => .bad
section
variable {B : Tb} {u : Option (Addr × Value × Option Addr)} {X : Cx} {W : WX} {pos : Pos}
theorem itD_len {K : PySem.W.Frag} {Z : Hp} {v : V} {d : D} {ds : List D} (r : Rp B Z v d) (e : itD d = some ds) : (∃ l, d = .str l) ∨ ∃ a vs, v = .ref a ∧ Rps B Z vs ds ∧ ((d = .lst ds ∧ Z a = some (.lst vs)) ∨ (d = .tup ds ∧ SqT B.K Z a vs)) := by
  cases r with
  | str l => exact .inl ⟨l, rfl⟩
  | tup h r => cases e; exact .inr ⟨_, _, rfl, r, .inr ⟨rfl, h⟩⟩
  | lst h r => cases e; exact .inr ⟨_, _, rfl, r, .inl ⟨rfl, h⟩⟩
  | _ => cases e
/-- for x in e -/
theorem vi_any {tg e : Expr} {f : Ef} (hK : X.K = B.K) (he : VE B u X W e f) : VIt B u X W tg e (iIt f) := by
  intro G hG
  have h0 := he G hG
  obtain ⟨rfl, rfl⟩ := hG
  refine pi_mono (pi_or (pi_seqQ (K := G.B.K) hK h0) (pi_str h0)) fun σ H Rr ⟨Z, ρ, s, I, h⟩ => ?_
  have h := h.bind
  cases ef : f ρ s with
  | bad => rw [ef] at h; exact h.elim
  | exc c fs s1 => rw [ef] at h; exact .inl ⟨Z, ρ, s, I, by rw [ef]; exact h⟩
  | ok d s1 =>
    rw [ef] at h
    obtain ⟨ds, e1, k⟩ := ROk.opt h
    by_cases hs : ∃ l, d = .str l
    · obtain ⟨l, rfl⟩ := hs
      cases e1
      refine .inr ⟨Z, ρ, s, I, ?_⟩
      rw [ef]
      intro v Z1 H1 I1 z1 r
      cases r
      exact ⟨_, rfl, k _ Z1 H1 I1 z1 walkD_str⟩
    · refine .inl ⟨Z, ρ, s, I, ?_⟩
      rw [ef]
      intro v Z1 H1 I1 z1 r
      rcases itD_len (K := G.B.K) r e1 with q | ⟨a, vs, rfl, rs, ⟨_, q⟩ | ⟨_, q⟩⟩
      · exact absurd q hs
      · exact ⟨a, vs, rfl, .inl ⟨.inl (.inl (I1.zh _ _ q)), k _ Z1 H1 I1 z1 (walkD_lst q rs)⟩⟩
      · exact ⟨a, vs, rfl, .inr ⟨seqT_mono I1.zh q, k _ Z1 H1 I1 z1 (walkD_tup q rs)⟩⟩
/-- new pairs -/
theorem walkD_pair {J : It} {n : Nat} {Gd : Hp → Prop} {Z0 : Hp} {fx fy : Nat → Option V} {ds : List D} (w : Walk J n Gd (YPair fx fy)) (hn : ds.length = n) (hg : ∀ H, Same Z0 H → Gd H)
    (hd : ∀ i x y, fx i = some x → fy i = some y → ∃ dx dy, ds[i]? = some (.tup [dx, dy]) ∧ Rp B Z0 x dx ∧ Rp B Z0 y dy) : WalkD B J Z0 ds := by
  subst hn
  refine ⟨_, w.mono hg (fun _ _ _ _ _ _ y => y), fun i H v H' y Z z zh => ?_⟩
  obtain ⟨T, x, y, rfl, n, rfl, e1, e2⟩ := y
  obtain ⟨dx, dy, e, rx, ry⟩ := hd i x y e1 e2
  exact ⟨_, _, e, Step.new _ zh n, new_tup zh n (.cons (rx.mono z) (.cons (ry.mono z) .nil))⟩
theorem vi_enum {e : Expr} {fa : Af} {p pos tpos : Pos} {elts : List Expr} {kk : Nat} (hK : X.K = B.K) (hg : Gl X "enumerate") (hm : X.mg "enumerate" = none) (ha : VA B u X W [e] fa) (hs : starEach [e] X.env = [(false, eval e X.env)] := by rfl) :
    VIt B u X W (.Tuple elts kk tpos) (.Call (.Name "enumerate" p) [e] [] pos) (iEnum fa) := by
  intro G hG
  have h0 := ha G hG
  obtain ⟨rfl, rfl⟩ := hG
  refine pi_mono (pi_or (pi_enumQ (K := G.B.K) hK hg hm h0 hs) (pi_enumS hg hm h0 hs)) fun σ H Rr ⟨Z, ρ, s, I, h⟩ => ?_
  have h := h.bind
  cases ef : fa ρ s with
  | bad => rw [ef] at h; exact h.elim
  | exc c fs s1 => rw [ef] at h; exact .inl ⟨Z, ρ, s, I, by rw [ef]; exact h⟩
  | ok ds s1 =>
    rw [ef] at h
    match ds, h, ef with
    | [], h, _ => exact h.elim
    | _ :: _ :: _, h, _ => exact h.elim
    | [d], h, ef =>
      obtain ⟨ds, e1, k⟩ := ROk.opt (show ROk G W σ ρ Z (opt ((itD d).map (enumF 0)) s1) _ from h)
      obtain ⟨es, e2, rfl⟩ := Option.map_eq_some_iff.mp e1
      by_cases hs : ∃ l, d = .str l
      · obtain ⟨l, rfl⟩ := hs
        cases e2
        refine .inr ⟨Z, ρ, s, I, ?_⟩
        rw [ef]
        intro vs Z1 H1 I1 z1 r
        cases r with
        | cons r rr =>
          cases rr
          cases r
          refine ⟨_, rfl, k _ Z1 H1 I1 z1 (walkD_pair walk_enumS (by rw [enumF_len, List.length_map]) (fun _ _ => trivial) fun i x y e1 e2 => ?_)⟩
          rw [enumF_at, List.getElem?_map]
          cases e3 : l[i]? with
          | none => rw [e3] at e2; cases e2
          | some c =>
            rw [e3] at e2
            cases e1
            cases e2
            exact ⟨.int i, .str [c], by simp, .int _, .str _⟩
      · refine .inl ⟨Z, ρ, s, I, ?_⟩
        rw [ef]
        intro vs Z1 H1 I1 z1 r
        cases r with
        | cons r rr =>
          cases rr
          have key : ∀ {vs : List V}, Rps G.B Z1 vs es → ∀ i x y, (some (V.int (i : Nat))) = some x → vs[i]? = some y → ∃ dx dy, (enumF 0 es)[i]? = some (.tup [dx, dy]) ∧ Rp G.B Z1 x dx ∧ Rp G.B Z1 y dy := fun rs i x y e1 e2 => by
            obtain ⟨d, ed, rd⟩ := rs.at2 e2
            cases e1
            exact ⟨.int i, d, by rw [enumF_at, ed]; simp, .int _, rd⟩
          rcases itD_len (K := G.B.K) r e2 with q | ⟨a, vs, rfl, rs, ⟨_, q⟩ | ⟨_, q⟩⟩
          · exact absurd q hs
          · exact ⟨a, vs, rfl, .inl ⟨.inl (.inl (I1.zh _ _ q)), k _ Z1 H1 I1 z1 (walkD_pair walk_enum (by rw [enumF_len, rs.len]) (fun H z => .inl (.inl (z _ _ q))) (key rs))⟩⟩
          · exact ⟨a, vs, rfl, .inr ⟨seqT_mono I1.zh q, k _ Z1 H1 I1 z1 (walkD_pair walk_enumT (by rw [enumF_len, rs.len]) (fun H z => seqT_mono z q) (key rs))⟩⟩
def rangeL (lo : Int) (n : Nat) : List D := (List.range n).map fun (i : Nat) => .int (lo + (i : Int))
def dInts : List D → Option (List Int)
  | [] => some []
  | .int i :: r => (dInts r).map (i :: ·)
  | _ => none
theorem dInts_of {Z : Hp} : ∀ {vs : List V} {ds : List D} {is : List Int}, Rps B Z vs ds → dInts ds = some is → vs = is.map V.int
  | _, _, _, .nil, e => by cases e; rfl
  | _, _, _, .cons h r, e => by
    cases h with
    | int i =>
      obtain ⟨js, e1, rfl⟩ := Option.map_eq_some_iff.mp (show (dInts _).map (i :: ·) = some _ from e)
      rw [dInts_of r e1]
      rfl
    | _ => cases e
def big (i : Int) : Bool := decide (-(2 ^ 62) ≤ i) && decide (i < 2 ^ 62)
theorem big_of {i : Int} (h : big i = true) : -(2 ^ 62) ≤ i ∧ i < 2 ^ 62 := by
  have h := Bool.and_eq_true_iff.mp h
  exact ⟨of_decide_eq_true h.1, of_decide_eq_true h.2⟩
def rg1 : List Int → Option (List D)
  | [j] => if big j then some (rangeL 0 j.toNat) else none
  | _ => none
def rg2 : List Int → Option (List D)
  | [i, j] => if big i && big j then some (rangeL i (j - i).toNat) else none
  | _ => none
def iRange (rg : List Int → Option (List D)) (fa : Af) : Af := fun ρ s => (fa ρ s).bind fun ds s1 => opt ((dInts ds).bind rg) s1
theorem range_of {rg : List Int → Option (List D)} {G : Gf} {σ : L2.St} {ρ : En} {Z : Hp} {s : S} {fa : Af} {k : List D → S → Prop} (h : ROk G W σ ρ Z (iRange rg fa ρ s) k) : ROk G W σ ρ Z (fa ρ s) fun ds s1 => ∃ is es, dInts ds = some is ∧ rg is = some es ∧ k es s1 := by
  refine h.bind.up (Same.refl Z) fun ds s1 h1 => ?_
  obtain ⟨es, e, q⟩ := h1.opt
  obtain ⟨is, e1, e2⟩ := Option.bind_eq_some_iff.mp e
  exact ⟨is, es, e1, e2, q⟩
theorem vi_range1 {tg e : Expr} {fa : Af} {p pos : Pos} (hg : Gl X "range") (hm : X.mg "range" = none) (ha : VA B u X W [e] fa) (hs : starEach [e] X.env = [(false, eval e X.env)] := by rfl) :
    VIt B u X W tg (.Call (.Name "range" p) [e] [] pos) (iRange rg1 fa) := by
  intro G hG
  refine pi_mono (pi_range1 hg hm (ha G hG) hs) fun σ H Rr ⟨Z, ρ, s, I, h⟩ => ?_
  refine ⟨Z, ρ, s, I, (range_of h).up (Same.refl Z) fun ds s1 ⟨is, es, e1, e2, q⟩ vs Z1 H1 I1 z1 r => ?_⟩
  have ev := dInts_of r e1
  match is, e2, ev with
  | [j], e2, ev =>
    obtain ⟨c, rfl⟩ := ite_some (show (if big j then some (rangeL 0 j.toNat) else none) = some es from e2)
    exact ⟨j, ev, (big_of c).1, (big_of c).2, q _ Z1 H1 I1 z1 walkD_range⟩
theorem vi_range2 {tg e e2 : Expr} {fa : Af} {p pos : Pos} (hg : Gl X "range") (hm : X.mg "range" = none) (ha : VA B u X W [e, e2] fa) (hs : starEach [e, e2] X.env = [(false, eval e X.env), (false, eval e2 X.env)] := by rfl) (hs2 : starEach [e2] X.env = [(false, eval e2 X.env)] := by rfl) :
    VIt B u X W tg (.Call (.Name "range" p) [e, e2] [] pos) (iRange rg2 fa) := by
  intro G hG
  refine pi_mono (pi_range2 hg hm (ha G hG) hs hs2) fun σ H Rr ⟨Z, ρ, s, I, h⟩ => ?_
  refine ⟨Z, ρ, s, I, (range_of h).up (Same.refl Z) fun ds s1 ⟨is, es, e1, e2, q⟩ vs Z1 H1 I1 z1 r => ?_⟩
  have ev := dInts_of r e1
  match is, e2, ev with
  | [i, j], e2, ev =>
    obtain ⟨c, rfl⟩ := ite_some (show (if big i && big j then some (rangeL i (j - i).toNat) else none) = some es from e2)
    obtain ⟨c1, c2⟩ := Bool.and_eq_true_iff.mp c
    exact ⟨i, j, ev, ⟨(big_of c1).1, (big_of c1).2, (big_of c2).1, (big_of c2).2⟩, q _ Z1 H1 I1 z1 walkD_range⟩
end
end Vv
namespace Vv
/-- at p stands a list of ours alone -/
structure Own1 (G : Gf) (Z : Hp) (σ : L2.St) (ρ : En) (p : Addr) : Prop where
  f : G.Free Z p
  h : G.H0 p = none
  d : ∀ i, OwnAt ρ i → σ[i]? ≠ some (some (.ref p))
section
variable {G : Gf} {Z H : Hp} {σ : L2.St} {ρ : En} {s : S}
theorem VI.h0 (I : VI G Z H σ ρ s) {p : Addr} (h : H p = none) : G.H0 p = none := by
  cases q : G.H0 p with
  | none => rfl
  | some u =>
    refine absurd (I.keep p u q (fun q hq e2 => ?_) fun x hx e2 => ?_) (by rw [h]; exact fun z => nomatch z)
    · obtain ⟨st, _, hA, _⟩ := I.hnd q hq
      rw [e2, hA.ea] at h
      cases h
    · rw [e2] at h
      exact I.slf x hx h
theorem VI.own1 (I : VI G Z H σ ρ s) {p : Addr} (h : H p = none) : Own1 G Z σ ρ p := by
  refine ⟨⟨I.zh.free h, fun q hq => ?_, fun q hq e => ?_⟩, I.h0 h, fun i o e => ?_⟩
  · obtain ⟨st, _, hA, _⟩ := I.hnd q hq
    exact ⟨fun e => (by rw [e, hA.ea] at h; cases h), fun e => (by rw [e, hA.el] at h; cases h)⟩
  · rw [e, (I.hid q hq).1] at h; cases h
  · unfold OwnAt at o
    cases q : ρ[i]? with
    | none => rw [q] at o; exact o
    | some x =>
      rw [q] at o
      have sl := I.sl i x q
      cases x with
      | own ds =>
        obtain ⟨p', vs, e', h', _⟩ := sl
        rw [e] at e'; cases e'
        rw [h] at h'; cases h'
      | dct ks ds =>
        obtain ⟨p', vs, e', h', _⟩ := sl
        rw [e] at e'; cases e'
        rw [h] at h'; cases h'
      | ob c fs =>
        obtain ⟨x, dx, vs, e', _, h', _⟩ := sl
        rw [e] at e'; cases e'
        rw [h] at h'; cases h'
      | _ => exact o
/-- a list of ours is laid into Z -/
theorem Own1.frz {p : Addr} {vs : List V} (o : Own1 G Z σ ρ p) (I : VI G Z H σ ρ s) (h : H p = some (.lst vs)) : VI G (upd Z p (.lst vs)) H σ ρ s ∧ Same Z (upd Z p (.lst vs)) := by
  have zz : Same Z (upd Z p (.lst vs)) := same_new (Same.refl Z) o.f.z
  have ne : ∀ b u, H b = some u → Z b = none → (∀ q : Unit, b ≠ p) → upd Z p (.lst vs) b = none := fun b u _ z n => by rw [upd_ne (n ())]; exact z
  refine ⟨{ len := I.len, zh := fun b u e => ?_, z0 := I.z0.trans zz, zn := fun b u e => ?_, keep := I.keep, hnd := fun q hq => ?_, slf := I.slf, hid := fun q hq => ?_, sl := fun i x e => ?_, dis := I.dis }, zz⟩
  · by_cases q : b = p
    · subst q; rw [upd_same] at e; cases e; exact h
    · rw [upd_ne q] at e; exact I.zh b u e
  · by_cases q : b = p
    · subst q; exact .inr o.h
    · rw [upd_ne q] at e; exact I.zn b u e
  · obtain ⟨st, e1, hA, z1, z2, hd⟩ := I.hnd q hq
    refine ⟨st, e1, hA, ?_, ?_, hd⟩
    · rw [upd_ne (Ne.symm (o.f.h q hq).1)]; exact z1
    · rw [upd_ne (Ne.symm (o.f.h q hq).2)]; exact z2
  · refine ⟨(I.hid q hq).1, ?_⟩
    rw [upd_ne (Ne.symm (o.f.d q hq))]
    exact (I.hid q hq).2
  · have sl := I.sl i x e
    have fr : ∀ a, G.Free Z a → a ≠ p → G.Free (upd Z p (.lst vs)) a := fun a f n => ⟨by rw [upd_ne n]; exact f.z, f.h, f.d⟩
    cases x with
    | no => trivial
    | val d => obtain ⟨v, e2, r⟩ := sl; exact ⟨v, e2, r.mono zz⟩
    | own ds =>
      obtain ⟨a, ws, e2, h2, f2, n2, r2⟩ := sl
      refine ⟨a, ws, e2, h2, fr a f2 fun q => ?_, n2, r2.mono zz⟩
      subst q
      exact o.d i (by unfold OwnAt; rw [e]; trivial) e2
    | dct ks ds =>
      obtain ⟨a, ws, e2, h2, f2, n2, r2⟩ := sl
      refine ⟨a, ws, e2, h2, fr a f2 fun q => ?_, n2, r2.mono zz⟩
      subst q
      exact o.d i (by unfold OwnAt; rw [e]; trivial) e2
    | ob c fs =>
      obtain ⟨a, dx, ws, e2, q2, h2, f2, r2⟩ := sl
      refine ⟨a, dx, ws, e2, q2, h2, fr a f2 fun q => ?_, r2.mono zz⟩
      subst q
      exact o.d i (by unfold OwnAt; rw [e]; trivial) e2
    | hand => exact sl
    | tab rows => obtain ⟨T, hT, hi, e2, r⟩ := sl; exact ⟨T, hT, hi, e2, r.mono zz⟩
    | al j k => exact sl
    | exc c fs => obtain ⟨a, d, ws, e2, x2, h2, l2, r2⟩ := sl; exact ⟨a, d, ws, e2, x2, zz _ _ h2, l2, r2.mono zz⟩
end
abbrev Lf := En → S → R (List D)
def tVF (G : Gf) (W : WX) (f : Lf) : TE := fun σ H Q => ∃ Z ρ s, VI G Z H σ ρ s ∧ ROk G W σ ρ Z (f ρ s) fun ds s' => ∀ p vs Z' H', VI G Z' H' σ ρ s' → Same Z Z' → H' p = some (.lst vs) → Own1 G Z' σ ρ p → Rps G.B Z' vs ds → Q (.ref p) H'
def VF (B : Tb) (u : Option (Addr × Value × Option Addr)) (X : Cx) (W : WX) (e : Expr) (f : Lf) : Prop := ∀ G : Gf, G.B = B ∧ G.ux = u → PE X e (tVF G W f)
def eOf (f : Lf) : Ef := fun ρ s => (f ρ s).bind fun ds s1 => .ok (.lst ds) s1
section
variable {B : Tb} {u : Option (Addr × Value × Option Addr)} {X : Cx} {W : WX} {pos : Pos} {e : Expr}
theorem vf_ve0 {G : Gf} {f : Lf} {σ : L2.St} {H : Hp} {Q : VK} (h : tV G W (eOf f) σ H Q) : tVF G W f σ H Q := by
  obtain ⟨Z, ρ, s, I, h⟩ := h
  refine ⟨Z, ρ, s, I, h.bind.up (Same.refl Z) fun ds s1 h1 p vs Z' H' I' z e o r => ?_⟩
  obtain ⟨I2, z2⟩ := o.frz I' e
  exact h1 _ _ H' I2 (z.trans z2) (.lst upd_same (r.mono z2))
theorem VF.ve {f : Lf} (h : VF B u X W e f) : VE B u X W e (eOf f) := by
  intro G hG
  exact pe_mono (h G hG) fun σ H Q h => vf_ve0 h
def fitL (ds : List D) : Option (List D) := if fit ds.length then some ds else none
theorem vf_lst {es : List Expr} {f : Af} (h : VA B u X W es f) : VF B u X W (.List es pos) (fun ρ s => (f ρ s).bind fun ds s1 => opt (fitL ds) s1) := by
  intro G hG
  obtain ⟨rfl, rfl⟩ := hG
  refine pe_mono (pe_lst (h G ⟨rfl, rfl⟩)) fun σ H Q ⟨Z, ρ, s, I, h⟩ => ?_
  refine ⟨Z, ρ, s, I, h.bind.up (Same.refl Z) fun ds s1 h1 vs Z1 H1 I1 z1 r => ?_⟩
  obtain ⟨es, e, k⟩ := h1.opt
  obtain ⟨f, rfl⟩ := ite_some e
  exact ⟨fit_le (by rw [r.len]; exact f), fun p n => k p vs Z1 _ (I1.step (Step.newH _ I1.zh n)) z1 upd_same (I1.own1 n) r⟩
/-- name = a new list, to be changed -/
def sOwn (i : Nat) (f : Lf) : Sf := fun ρ s => (f ρ s).then ρ fun ds s1 => .nx (ρ.set i (.own ds)) s1
theorem ownAt_set {ρ : En} {i j : Nat} {x : Sl} (h : OwnAt (ρ.set i x) j) (n : j ≠ i) : OwnAt ρ j := by
  unfold OwnAt at h
  rw [List.getElem?_set_ne (Ne.symm n)] at h
  exact h
theorem VI.setOwn {G : Gf} {Z H : Hp} {σ : L2.St} {ρ : En} {s : S} (I : VI G Z H σ ρ s) {i : Nat} {p : Addr} {vs : List V} {ds : List D} (h : H p = some (.lst vs)) (o : Own1 G Z σ ρ p) (r : Rps G.B Z vs ds) :
    VI G Z H (σ.set i (some (.ref p))) (ρ.set i (.own ds)) s := by
  refine I.slots (by rw [List.length_set, List.length_set, I.len]) (fun j x e => ?_) fun j k q n oj ok e => ?_
  · by_cases c : i = j
    · subst c
      rw [List.getElem?_set_self'] at e
      cases z : ρ[i]? with
      | none => rw [z] at e; cases e
      | some y =>
        rw [z] at e
        cases e
        have hl : i < σ.length := by
          have := (List.getElem?_eq_some_iff.mp z).1
          rw [I.len] at this
          exact this
        exact ⟨p, vs, by rw [List.getElem?_set_self hl], h, o.f, o.h, r⟩
    · rw [List.getElem?_set_ne c] at e
      exact slOk_other c (I.sl j x e)
  · by_cases c : j = i
    · subst c
      have c2 : k ≠ j := Ne.symm n
      rw [List.getElem?_set_self'] at e
      rw [List.getElem?_set_ne (Ne.symm c2)]
      cases z : σ[j]? with
      | none => rw [z] at e; cases e
      | some y => rw [z] at e; cases e; exact o.d k (ownAt_set ok c2)
    · rw [List.getElem?_set_ne (Ne.symm c)] at e
      by_cases c2 : k = i
      · subst c2
        intro z2
        rw [List.getElem?_set_self'] at z2
        cases z : σ[k]? with
        | none => rw [z] at z2; cases z2
        | some y => rw [z] at z2; cases z2; exact o.d j (ownAt_set oj c) e
      · rw [List.getElem?_set_ne (Ne.symm c2)]
        exact I.dis j k q n (ownAt_set oj c) (ownAt_set ok c2) e
theorem own_of {G : Gf} {f : Lf} {i : Nat} {D' : Ends} {σ : L2.St} {H : Hp} (h : tVS G W (sOwn i f) D' σ H) : tAsg (tVF G W f) (gName i) D' σ H := by
  obtain ⟨Z, ρ, s, I, h⟩ := h
  exact ⟨Z, ρ, s, I, (SOk.from h σ).up (Same.refl Z) fun ds s1 h1 p vs Z' H' I' z e o r => h1 _ Z' H' (I'.setOwn e o r) z⟩
theorem vs_own (i : Nat) {x : Str} {pos' : Pos} {f : Lf} (hN : X.N.Nodup) (he : VF B u X W e f) (hi : X.N[i]? = some x := by rfl) (hx : Loc X.env.scope x := by first | exact Or.inl rfl | exact Or.inr rfl) (hs : swapsWith e (some (.Name x pos')) pos.line X.env = pure false := by rfl)
    (hf : X.fn x = true ∨ X.env.scope.names.lookup x = some .local := by first | exact .inl rfl | exact .inr rfl | assumption) : VS B u X W (.Assign [.Name x pos'] e pos) (sOwn i f) := by
  intro G hG
  exact ps_mono (ps_set (i := i) hN hi hx (he G hG) hs hf) fun D' σ H h => own_of h
def R.calm {α : Type} (r : R α) : R α := match r with
  | .exc _ _ _ => .bad
  | r => r
def plainAt (ρ : En) (i : Nat) : Bool := match ρ[i]? with
  | some (.own _) => false
  | some (.dct _ _) => false
  | some (.ob _ _) => false
  | _ => true
def lcD (gt : D → En → Option En) (ft : Tf) (fe : Ef) (ρ : En) : List D → List D → S → R (List D)
  | [], acc, s => .ok acc s
  | d :: ds, acc, s => (opt (gt d ρ) s).bind fun ρ1 s => (ft ρ1 s).calm.bind fun b s1 => if b then (fe ρ1 s1).calm.bind fun y s2 => if fit acc.length then lcD gt ft fe ρ ds (acc ++ [y]) s2 else .bad else lcD gt ft fe ρ ds acc s1
def lLc (is : List Nat) (fi : Af) (gt : D → En → Option En) (ft : Tf) (fe : Ef) : Lf := fun ρ s => if is.all (plainAt ρ) then (fi ρ s).bind fun ds s1 => lcD gt ft fe (wipeE ρ is) ds [] s1 else .bad
def W0 : WX := fun _ _ _ _ => False
theorem ROk.calm {G : Gf} {W : WX} {σ : L2.St} {ρ : En} {Z : Hp} {α : Type} {r : R α} {k : α → S → Prop} (h : ROk G W σ ρ Z r.calm k) {G' : Gf} {W' : WX} {σ' : L2.St} {ρ' : En} {Z' : Hp} : ROk G' W' σ' ρ' Z' r k := by
  cases r with
  | ok x s => exact h
  | exc c fs s => exact h.elim
  | bad => exact h
theorem VI.wipe {G : Gf} {Z H : Hp} {σ : L2.St} {ρ : En} {s : S} (I : VI G Z H σ ρ s) : ∀ vs : List Nat, VI G Z H (wipe σ vs) (wipeE ρ vs) s
  | [] => I
  | _ :: vs => (I.wipe vs).setNo
theorem wipe_out2 {σ : L2.St} {j : Nat} : ∀ {vs : List Nat}, j ∉ vs → (L2.wipe σ vs)[j]? = σ[j]?
  | [], _ => rfl
  | v :: vs, h => by
    show ((L2.wipe σ vs).set v none)[j]? = _
    rw [List.getElem?_set_ne (show v ≠ j from fun e => h (by rw [e]; exact List.mem_cons_self)), wipe_out2 fun q => h (List.mem_cons_of_mem _ q)]
theorem wipeE_out {ρ : En} {j : Nat} : ∀ {vs : List Nat}, j ∉ vs → (wipeE ρ vs)[j]? = ρ[j]?
  | [], _ => rfl
  | v :: vs, h => by
    show ((wipeE ρ vs).set v Sl.no)[j]? = _
    rw [List.getElem?_set_ne (show v ≠ j from fun e => h (by rw [e]; exact List.mem_cons_self)), wipeE_out fun q => h (List.mem_cons_of_mem _ q)]
/-- the frame with one hidden object more -/
abbrev Gf.hide (G : Gf) (p : Addr) (o : HO) : Gf := { G with hid := (p, o) :: G.hid }
theorem VI.hide {G : Gf} {Z H : Hp} {σ : L2.St} {ρ : En} {s : S} {p : Addr} {o : HO} (I : VI G Z H σ ρ s) (n : H p = none) : VI (G.hide p o) Z (upd H p o) σ ρ s := by
  have J := I.step (Step.newH o I.zh n)
  have o1 := I.own1 n
  have ex : ∀ b u, H b = some u → b ≠ p := fun b u e => ne_of_none e n
  refine ⟨J.len, J.zh, J.z0, J.zn, J.keep, fun q hq => ?_, J.slf, fun q hq => ?_, fun i x e => ?_, J.dis⟩
  · obtain ⟨st, e1, hA, z1, z2, hd⟩ := J.hnd q hq
    refine ⟨st, e1, hA, z1, z2, fun e he => ?_⟩
    rcases List.mem_cons.mp he with h | h
    · rw [h]; exact o1.f.h q hq
    · exact hd e h
  · rcases List.mem_cons.mp hq with h | h
    · rw [h]; exact ⟨upd_same, o1.f.z⟩
    · exact J.hid q h
  · have sl := I.sl i x e
    have fr : ∀ a u, H a = some u → G.Free Z a → (G.hide p o).Free Z a := fun a u e f => ⟨f.z, f.h, fun q hq => by
      rcases List.mem_cons.mp hq with h | h
      · rw [h]; exact ex a u e
      · exact f.d q h⟩
    cases x with
    | no => trivial
    | val d => exact sl
    | own ds => obtain ⟨a, ws, e2, h2, f2, n2, r2⟩ := sl; exact ⟨a, ws, e2, by rw [upd_ne (ex a _ h2)]; exact h2, fr a _ h2 f2, n2, r2⟩
    | dct ks ds => obtain ⟨a, ws, e2, h2, f2, n2, r2⟩ := sl; exact ⟨a, ws, e2, by rw [upd_ne (ex a _ h2)]; exact h2, fr a _ h2 f2, n2, r2⟩
    | ob c fs => obtain ⟨a, dx, ws, e2, q2, h2, f2, r2⟩ := sl; exact ⟨a, dx, ws, e2, q2, by rw [upd_ne (ex a _ h2)]; exact h2, fr a _ h2 f2, r2⟩
    | hand => exact sl
    | tab rows => exact sl
    | al j k => exact sl
    | exc c fs => exact sl
/-- the hidden object is changed -/
theorem VI.rehide {G : Gf} {Z H : Hp} {σ : L2.St} {ρ : En} {s : S} {p : Addr} {o o' : HO} (I : VI (G.hide p o) Z H σ ρ s) (hp : G.H0 p = none) (hq : ∀ q ∈ G.hid, q.1 ≠ p) (hx : ∀ x, G.self = some x → x ≠ p) : VI (G.hide p o') Z (upd H p o') σ ρ s := by
  have hz := (I.hid (p, o) List.mem_cons_self).2
  have ne : ∀ b u, Z b = some u → b ≠ p := fun b u e => ne_of_none e hz
  refine ⟨I.len, fun b u e => by rw [upd_ne (ne b u e)]; exact I.zh b u e, I.z0, I.zn, fun b u e h1 h2 => ?_, fun q hq2 => ?_, fun x e z => ?_, fun q hq2 => ?_, fun i x e => ?_, I.dis⟩
  · rw [upd_ne (ne_of_none (show G.H0 b = some u from e) hp)]
    exact I.keep b u e h1 h2
  · obtain ⟨st, e1, hA, z1, z2, hd⟩ := I.hnd q hq2
    have h3 := hd (p, o) List.mem_cons_self
    refine ⟨st, e1, ⟨by rw [upd_ne (Ne.symm h3.1)]; exact hA.ea, by rw [upd_ne (Ne.symm h3.2)]; exact hA.el, hA.ne⟩, z1, z2, fun e he => ?_⟩
    rcases List.mem_cons.mp he with h | h
    · rw [h]; exact h3
    · exact hd e (List.mem_cons_of_mem _ h)
  · rw [upd_ne (hx x e)] at z
    exact I.slf x e z
  · rcases List.mem_cons.mp hq2 with h | h
    · rw [h]; exact ⟨upd_same, hz⟩
    · rw [upd_ne (hq q h)]
      exact I.hid q (List.mem_cons_of_mem _ h)
  · have sl := I.sl i x e
    have fr : ∀ a, (G.hide p o).Free Z a → a ≠ p ∧ (G.hide p o').Free Z a := fun a f => ⟨f.d (p, o) List.mem_cons_self, f.z, f.h, fun q hq => by
      rcases List.mem_cons.mp hq with h | h
      · rw [h]; exact f.d (p, o) List.mem_cons_self
      · exact f.d q (List.mem_cons_of_mem _ h)⟩
    cases x with
    | no => trivial
    | val d => exact sl
    | own ds => obtain ⟨a, ws, e2, h2, f2, n2, r2⟩ := sl; exact ⟨a, ws, e2, by rw [upd_ne (fr a f2).1]; exact h2, (fr a f2).2, n2, r2⟩
    | dct ks ds => obtain ⟨a, ws, e2, h2, f2, n2, r2⟩ := sl; exact ⟨a, ws, e2, by rw [upd_ne (fr a f2).1]; exact h2, (fr a f2).2, n2, r2⟩
    | ob c fs => obtain ⟨a, dx, ws, e2, q2, h2, f2, r2⟩ := sl; exact ⟨a, dx, ws, e2, q2, by rw [upd_ne (fr a f2).1]; exact h2, (fr a f2).2, r2⟩
    | hand => exact sl
    | tab rows => exact sl
    | al j k => exact sl
    | exc c fs => exact sl
/-- out of a comprehension: the block's slots as they were, the new list ours -/
theorem VI.unhide {G : Gf} {Z Z0 H H1 : Hp} {σ : L2.St} {ρ : En} {s s0 : S} {p : Addr} {o : HO} {is : List Nat} (I : VI (G.hide p o) Z H (L2.wipe σ is) (wipeE ρ is) s) (I0 : VI G Z0 H1 σ ρ s0) (hn : H1 p = none) (z : Same Z0 Z) (pl : is.all (plainAt ρ) = true) :
    VI G Z H σ ρ s ∧ Own1 G Z σ ρ p := by
  have o1 := I0.own1 hn
  have hz := (I.hid (p, o) List.mem_cons_self).2
  have J : VI G Z H (L2.wipe σ is) (wipeE ρ is) s := by
    refine ⟨I.len, I.zh, I.z0, I.zn, I.keep, fun q hq => ?_, I.slf, fun q hq => I.hid q (List.mem_cons_of_mem _ hq), fun i x e => ?_, I.dis⟩
    · obtain ⟨st, e1, hA, z1, z2, hd⟩ := I.hnd q hq
      exact ⟨st, e1, hA, z1, z2, fun e he => hd e (List.mem_cons_of_mem _ he)⟩
    · have sl := I.sl i x e
      have fr : ∀ a, (G.hide p o).Free Z a → G.Free Z a := fun a f => ⟨f.z, f.h, fun q hq => f.d q (List.mem_cons_of_mem _ hq)⟩
      cases x with
      | no => trivial
      | val d => exact sl
      | own ds => obtain ⟨a, ws, e2, h2, f2, n2, r2⟩ := sl; exact ⟨a, ws, e2, h2, fr a f2, n2, r2⟩
      | dct ks ds => obtain ⟨a, ws, e2, h2, f2, n2, r2⟩ := sl; exact ⟨a, ws, e2, h2, fr a f2, n2, r2⟩
      | ob c fs => obtain ⟨a, dx, ws, e2, q2, h2, f2, r2⟩ := sl; exact ⟨a, dx, ws, e2, q2, h2, fr a f2, r2⟩
      | hand => exact sl
      | tab rows => exact sl
      | al j k => exact sl
      | exc c fs => exact sl
  have po : ∀ i ∈ is, ¬ OwnAt ρ i := fun i hi ho => by
    have h := List.all_eq_true.mp pl i hi
    unfold plainAt at h
    unfold OwnAt at ho
    split at h <;> simp_all
  have oa : ∀ i, OwnAt ρ i → i ∉ is ∧ OwnAt (wipeE ρ is) i := fun i h => by
    have n : i ∉ is := fun hi => po i hi h
    refine ⟨n, ?_⟩
    unfold OwnAt at h ⊢
    rw [wipeE_out n]
    exact h
  refine ⟨J.slots I0.len (fun i x e => ?_) fun i j q n oi oj e => ?_, ⟨hz, o1.f.h, o1.f.d⟩, o1.h, o1.d⟩
  · by_cases hi : i ∈ is
    · have sl := I0.sl i x e
      cases x with
      | no => trivial
      | val d => obtain ⟨v, e2, r⟩ := sl; exact ⟨v, e2, r.mono z⟩
      | own ds => exact absurd (show OwnAt ρ i by unfold OwnAt; rw [e]; trivial) (po i hi)
      | dct ks ds => exact absurd (show OwnAt ρ i by unfold OwnAt; rw [e]; trivial) (po i hi)
      | ob c fs => exact absurd (show OwnAt ρ i by unfold OwnAt; rw [e]; trivial) (po i hi)
      | hand => exact sl
      | tab rows => obtain ⟨T, hT, hi, e2, r⟩ := sl; exact ⟨T, hT, hi, e2, r.mono z⟩
      | al j k => exact sl
      | exc c fs => obtain ⟨a, d, ws, e2, x2, h2, l2, r2⟩ := sl; exact ⟨a, d, ws, e2, x2, z _ _ h2, l2, r2.mono z⟩
    · have sl := J.sl i x (by rw [wipeE_out hi]; exact e)
      have es : (L2.wipe σ is)[i]? = σ[i]? := wipe_out2 hi
      cases x with
      | no => trivial
      | val d => obtain ⟨v, e2, r⟩ := sl; exact ⟨v, es.symm.trans e2, r⟩
      | own ds => obtain ⟨a, ws, e2, r2⟩ := sl; exact ⟨a, ws, es.symm.trans e2, r2⟩
      | dct ks ds => obtain ⟨a, ws, e2, r2⟩ := sl; exact ⟨a, ws, es.symm.trans e2, r2⟩
      | ob c fs => obtain ⟨a, dx, ws, e2, r2⟩ := sl; exact ⟨a, dx, ws, es.symm.trans e2, r2⟩
      | hand => obtain ⟨q, h, e2⟩ := sl; exact ⟨q, h, es.symm.trans e2⟩
      | tab rows => obtain ⟨T, hT, hi, e2, r⟩ := sl; exact ⟨T, hT, hi, es.symm.trans e2, r⟩
      | al j k => obtain ⟨T, hT, hi, q, hq, e1, e2⟩ := sl; exact ⟨T, hT, hi, q, hq, e1, es.symm.trans e2⟩
      | exc c fs => obtain ⟨a, d, ws, e2, r2⟩ := sl; exact ⟨a, d, ws, es.symm.trans e2, r2⟩
  · obtain ⟨ni, oi'⟩ := oa i oi
    obtain ⟨nj, oj'⟩ := oa j oj
    have := J.dis i j q n oi' oj' (by rw [wipe_out2 ni]; exact e)
    rwa [wipe_out2 nj] at this
theorem wipe_sub {σ : L2.St} {is : List Nat} : ∀ vs : List Nat, (∀ i ∈ vs, i ∈ is) → L2.wipe (L2.wipe σ vs) is = L2.wipe σ is
  | [], _ => rfl
  | v :: vs, h => by
    show L2.wipe ((L2.wipe σ vs).set v none) is = _
    rw [wipe_set (h v List.mem_cons_self), wipe_sub vs fun i hi => h i (List.mem_cons_of_mem _ hi)]
theorem wipeE_sub {ρ : En} {is : List Nat} : ∀ vs : List Nat, (∀ i ∈ vs, i ∈ is) → wipeE (wipeE ρ vs) is = wipeE ρ is
  | [], _ => rfl
  | v :: vs, h => by
    show wipeE ((wipeE ρ vs).set v Sl.no) is = _
    rw [wipeE_set (h v List.mem_cons_self), wipeE_sub vs fun i hi => h i (List.mem_cons_of_mem _ hi)]
/-- whatever the frame is -/
def xVT (B : Tb) (u : Option (Addr × Value × Option Addr)) (W : WX) (f : Tf) : TT := fun σ H Q => ∃ G : Gf, (G.B = B ∧ G.ux = u) ∧ tVT G W f σ H Q
def xV (B : Tb) (u : Option (Addr × Value × Option Addr)) (W : WX) (f : Ef) : TE := fun σ H Q => ∃ G : Gf, (G.B = B ∧ G.ux = u) ∧ tV G W f σ H Q
def VTs (B : Tb) (u : Option (Addr × Value × Option Addr)) (X : Cx) (W : WX) (es : List Expr) (f : Tf) : Prop := PTs X es (xVT B u W f)
def tTrue : Tf := fun _ s => .ok true s
theorem vts_nil : VTs B u X W [] tTrue := ⟨fun pins s σ H Q I ⟨G, hG, Z, ρ, s', I', h⟩ => pts_nil.run pins s σ H Q I (h Z H I' (Same.refl Z))⟩
theorem vts_one {c : Expr} {f : Tf} (h : VT B u X W c f) : VTs B u X W [c] f := ⟨fun pins s σ H Q I ⟨G, hG, q⟩ => (pts_one (h G hG)).run pins s σ H Q I q⟩
theorem VE.x {f : Ef} (h : VE B u X W e f) : PE X e (xV B u W f) := ⟨fun pins s σ H Q I ⟨G, hG, q⟩ => (h G hG).run pins s σ H Q I q⟩
theorem lc_of {is : List Nat} {G : Gf} {J : It} {Z0 H1 : Hp} {ds : List D} {gt : D → En → Option En} {ft : Tf} {fe : Ef} {g : TG} (w : WalkD G.B J Z0 ds) (o : VGok G.B is g gt) {σ : L2.St} {ρ : En} {s : S} (I : VI G Z0 H1 σ ρ s) (pl : is.all (plainAt ρ) = true)
    {Wx : WX} {Q : VK} {Zb : Hp} (h : ROk G Wx σ ρ Zb (lcD gt ft fe (wipeE ρ is) ds [] s) fun ds s' => ∀ p vs Z' H', VI G Z' H' σ ρ s' → Same Z0 Z' → H' p = some (.lst vs) → Own1 G Z' σ ρ p → Rps G.B Z' vs ds → Q (.ref p) H') :
    ∀ D, H1 D = none → ∃ Wv : Nat → Nat → Hp → Prop, (∃ m, Wv 0 m (upd H1 D (.lst []))) ∧ ∀ i m H, Wv i m H →
  (J.stop i H ∧ Q (.ref D) H) ∨ (J.go i H ∧ ∃ Nx : Hp → Prop, (∀ H', Nx H' → ∃ m', m' < m ∧ Wv (i + 1) m' H') ∧ ∀ x H', J.yld i H x H' → g x (L2.wipe σ is) H' fun σ2 H2 => L2.wipe σ2 is = L2.wipe σ is ∧ xVT G.B G.ux W0 ft σ2 H2 fun b H3 =>
    if b = true then xV G.B G.ux W0 fe σ2 H3 fun y H4 => ∃ acc, H4 D = some (.lst acc) ∧ acc.length < sizeLine ∧ Nx (upd H4 D (.lst (acc ++ [y]))) else Nx H3) := by
  intro D hD
  obtain ⟨Y, wk, y⟩ := w
  have o1 := I.own1 hD
  have sx : ∀ x, G.self = some x → x ≠ D := fun x hx e => I.slf x hx (by rw [e]; exact hD)
  refine lc_it wk (fun i H => ∃ Z s acc dacc, VI (G.hide D (.lst acc)) Z H (L2.wipe σ is) (wipeE ρ is) s ∧ Same Z0 Z ∧ Rps G.B Z acc dacc ∧ ROk G Wx σ ρ Zb (lcD gt ft fe (wipeE ρ is) (ds.drop i) dacc s) _)
    ⟨Z0, s, [], [], (I.wipe is).hide hD, Same.refl Z0, .nil, h⟩ (fun i H _ ⟨Z, s, acc, dacc, I', z, _⟩ => z.trans I'.zh) ?_ ?_
  · rintro i x H H' hi ⟨Z, s, acc, dacc, I', z, ra, h⟩ hy
    obtain ⟨d, Z', ed, t, r⟩ := y i H x H' hy Z z I'.zh
    rw [drop_cons ed] at h
    obtain ⟨ρ1, e, h⟩ := (ROk.bind (show ROk G Wx σ ρ Zb ((opt (gt d (wipeE ρ is)) s).bind _) _ from h)).opt
    refine o (G.hide D (.lst acc)) Z' H' (L2.wipe σ is) (wipeE ρ is) s x d ρ1 _ rfl (I'.step t) r e fun σ' I2 wp wpe => ?_
    have e1 : L2.wipe σ' is = L2.wipe σ is := (wp is fun _ h => h).trans (wipe_sub is fun _ h => h)
    have e2 : wipeE ρ1 is = wipeE ρ is := (wpe is fun _ h => h).trans (wipeE_sub is fun _ h => h)
    refine ⟨e1, G.hide D (.lst acc), ⟨rfl, rfl⟩, Z', ρ1, s, I2, (ROk.calm (ROk.bind h)).up (Same.refl Z') fun b s1 h1 Z2 H2 I3 z2 => ?_⟩
    cases b with
    | false =>
      rw [if_neg Bool.false_ne_true]
      have I4 := I3.wipe is
      rw [e1, e2] at I4
      exact ⟨Z2, s1, acc, dacc, I4, z.trans (t.zz.trans z2), ra.mono (t.zz.trans z2), h1⟩
    | true =>
      rw [if_pos rfl]
      refine ⟨G.hide D (.lst acc), ⟨rfl, rfl⟩, Z2, ρ1, s1, I3, (ROk.calm (ROk.bind (show ROk G Wx σ ρ Zb ((fe ρ1 s1).calm.bind _) _ from h1))).up (Same.refl Z2) fun y s2 h2 v Z3 H3 I4 z3 rv => ?_⟩
      have hz := (I4.hid (D, .lst acc) List.mem_cons_self).1
      cases hf : fit dacc.length with
      | false =>
        rw [hf] at h2
        exact h2.elim
      | true =>
        rw [hf] at h2
        have I5 := I4.wipe is
        rw [e1, e2] at I5
        refine ⟨acc, hz, fit_lt (by rw [ra.len]; exact hf), Z3, s2, acc ++ [v], dacc ++ [y], I5.rehide o1.h (fun q hq e => o1.f.d q hq e.symm) sx, z.trans (t.zz.trans (z2.trans z3)), (ra.mono (t.zz.trans (z2.trans z3))).app (.cons rv .nil), h2⟩
  · rintro H ⟨Z, s, acc, dacc, I', z, ra, h⟩
    rw [List.drop_length] at h
    have hz := (I'.hid (D, .lst acc) List.mem_cons_self).1
    obtain ⟨I2, o2⟩ := I'.unhide I hD z pl
    exact h D acc Z H I2 z hz o2 ra
section
variable {is : List Nat} {elt tg iter : Expr} {ifs : List Expr} {scope : Scope} {own : List (Str × Nat)} {fi : Af} {gt : D → En → Option En} {ft : Tf} {fe : Ef}
theorem lcT {G : Gf} {g : TG} (hs : own.map (·.2) = is) (o : VGok G.B is g gt) {σ : L2.St} {H : Hp} {Q : VK} (h : tVF G W (lLc is fi gt ft fe) σ H Q) : tLc (tVI G W fi) g (xVT G.B G.ux W0 ft) (xV G.B G.ux W0 fe) (own.map (·.2)) σ H Q := by
  subst hs
  obtain ⟨Z, ρ, s, I, h⟩ := h
  unfold lLc at h
  cases pl : (own.map (·.2)).all (plainAt ρ) with
  | false => rw [pl] at h; exact h.elim
  | true =>
    rw [pl] at h
    have h : ROk G W σ ρ Z ((fi ρ s).bind _) _ := h
    refine ⟨Z, ρ, s, I, h.bind.up (Same.refl Z) fun ds s1 h1 J Z' H' I' z w => ?_⟩
    exact lc_of w o I' pl (h1.up (Same.refl Z) fun es s2 k p vs Z2 H2 I2 z2 => k p vs Z2 H2 I2 (z.trans z2))
theorem vf_lc (hc : X.calm = true) (hN : X.N.Nodup) (hi : VIt B u X W tg iter fi) (ok : BlkOk X.N X.env.scope scope own) (hs : own.map (·.2) = is)
    (hg : ∃ g, (∀ (s : Shared) (H : Hp) (C : Addr) (cl : List (Str × Addr)) (fp : List Addr), PG (X.blk s H scope (compEnvC scope cl C X.env) fp) tg g) ∧ VGok B is g gt)
    (ht : ∀ (s : Shared) (H : Hp) (C : Addr) (cl : List (Str × Addr)) (fp : List Addr), VTs B u (X.blk s H scope (compEnvC scope cl C X.env) fp) W0 ifs ft)
    (he : ∀ (s : Shared) (H : Hp) (C : Addr) (cl : List (Str × Addr)) (fp : List Addr), VE B u (X.blk s H scope (compEnvC scope cl C X.env) fp) W0 elt fe) (hx : ∀ x, foldedSetIterable iter X.env x = pure x := by intro _; rfl) :
    VF B u X W (.ListComp elt [⟨tg, iter, ifs, 0⟩] scope pos) (lLc is fi gt ft fe) := by
  intro G hG
  obtain ⟨g, hg, o⟩ := hg
  have h0 := hi G hG
  obtain ⟨rfl, rfl⟩ := hG
  exact pe_mono (pe_lc hc hN h0 ok hg ht (fun s H C cl fp => (he s H C cl fp).x) hx) fun σ H Q h => lcT hs o h
end
end
end Vv
namespace Vv
section
variable {B : Tb} {u : Option (Addr × Value × Option Addr)} {X : Cx} {W : WX} {pos : Pos} {e : Expr}
theorem set_same {σ : L2.St} {i : Nat} {x : Option V} (h : σ[i]? = some x) : σ.set i x = σ := by
  refine List.ext_getElem? fun j => ?_
  by_cases q : i = j
  · subst q
    rw [List.getElem?_set_self (List.getElem?_eq_some_iff.mp h).1, h]
  · rw [List.getElem?_set_ne q]
def frz1 (ρ : En) (i : Nat) : En := match ρ[i]? with
  | some (.own ds) => ρ.set i (.val (.lst ds))
  | _ => ρ
theorem VI.frz1 {G : Gf} {Z H : Hp} {σ : L2.St} {ρ : En} {s : S} (I : VI G Z H σ ρ s) (i : Nat) : ∃ Z', VI G Z' H σ (frz1 ρ i) s ∧ Same Z Z' := by
  unfold Vv.frz1
  split
  · rename_i ds e
    obtain ⟨p, vs, ep, hp, f, n, r⟩ := I.sl i _ e
    have J : VI G Z H σ (ρ.set i .no) s := by
      have := I.setNo (i := i) (v := some (.ref p))
      rwa [set_same ep] at this
    have o : Own1 G Z σ (ρ.set i .no) p := ⟨f, n, fun j oj ej => by
      obtain ⟨n2, oj2⟩ := ownAt_set_no oj
      exact I.dis i j p (Ne.symm n2) (by unfold OwnAt; rw [e]; trivial) oj2 ep ej⟩
    obtain ⟨J2, z2⟩ := o.frz J hp
    refine ⟨_, ?_, z2⟩
    have J3 := J2.setVal (i := i) (v := .ref p) (d := .lst ds) (.lst upd_same (r.mono z2))
    rwa [set_same ep, set_twice] at J3
  · exact ⟨Z, I, Same.refl Z⟩
def sFrz (i : Nat) (g : Sf) : Sf := fun ρ s => g (frz1 ρ i) s
theorem vs_frz (i : Nat) {st : Stmt} {g : Sf} (h : VS B u X W st g) : VS B u X W st (sFrz i g) := by
  intro G hG
  refine ps_mono (h G hG) fun D' σ H ⟨Z, ρ, s, I, h⟩ => ?_
  obtain ⟨Z', I', z⟩ := I.frz1 i
  exact ⟨Z', _, s, I', SOk.up z (show SOk G W Z D' (g (frz1 ρ i) s) from h)⟩
def frzS : Sl → Sl
  | .own ds => .val (.lst ds)
  | x => x
def noOb (ρ : En) : Bool := ρ.all fun x => match x with
  | .ob _ _ => false
  | .dct _ _ => false
  | _ => true
def OwnL (ρ : En) (i : Nat) : Prop := match ρ[i]? with
  | some (.own _) => True
  | _ => False
open Classical in
noncomputable def frzZ (Z H : Hp) (σ : L2.St) (ρ : En) : Hp := fun b => if ∃ i, OwnL ρ i ∧ σ[i]? = some (some (.ref b)) then H b else Z b
theorem OwnL.at {ρ : En} {i : Nat} (h : OwnL ρ i) : ∃ ds, ρ[i]? = some (.own ds) := by
  unfold OwnL at h
  split at h
  · exact ⟨_, by assumption⟩
  · exact h.elim
theorem VI.frzA {G : Gf} {Z H : Hp} {σ : L2.St} {ρ : En} {s : S} (I : VI G Z H σ ρ s) (no : noOb ρ = true) : VI G (frzZ Z H σ ρ) H σ (ρ.map frzS) s ∧ Same Z (frzZ Z H σ ρ) := by
  have yes : ∀ b i, OwnL ρ i → σ[i]? = some (some (.ref b)) → frzZ Z H σ ρ b = H b := fun b i o e => if_pos ⟨i, o, e⟩
  have nn : ∀ b, (¬ ∃ i, OwnL ρ i ∧ σ[i]? = some (some (.ref b))) → frzZ Z H σ ρ b = Z b := fun b h => if_neg h
  have own : ∀ b, (∃ i, OwnL ρ i ∧ σ[i]? = some (some (.ref b))) → G.Free Z b ∧ G.H0 b = none := fun b ⟨i, o, e⟩ => by
    obtain ⟨ds, e2⟩ := o.at
    obtain ⟨p, vs, ep, hp, f, n, r⟩ := I.sl i _ e2
    rw [e] at ep; cases ep
    exact ⟨f, n⟩
  have zz : Same Z (frzZ Z H σ ρ) := fun b o e => by
    rw [nn b fun h => by rw [(own b h).1.z] at e; cases e]
    exact e
  have keepN : ∀ b, Z b = none → (∀ f : G.Free Z b, False) → frzZ Z H σ ρ b = none := fun b z h => by
    rw [nn b fun q => h (own b q).1]; exact z
  refine ⟨⟨by rw [List.length_map]; exact I.len, fun b o e => ?_, I.z0.trans zz, fun b o e => ?_, I.keep, fun q hq => ?_, I.slf, fun q hq => ?_, fun i x e => ?_, fun i j p n oi => ?_⟩, zz⟩
  · by_cases h : ∃ i, OwnL ρ i ∧ σ[i]? = some (some (.ref b))
    · rw [show frzZ Z H σ ρ b = H b from if_pos h] at e; exact e
    · rw [nn b h] at e; exact I.zh b o e
  · by_cases h : ∃ i, OwnL ρ i ∧ σ[i]? = some (some (.ref b))
    · exact .inr (own b h).2
    · rw [nn b h] at e; exact I.zn b o e
  · obtain ⟨st, e1, hA, z1, z2, hd⟩ := I.hnd q hq
    exact ⟨st, e1, hA, keepN _ z1 fun f => (f.h q hq).1 rfl, keepN _ z2 fun f => (f.h q hq).2 rfl, hd⟩
  · exact ⟨(I.hid q hq).1, keepN _ (I.hid q hq).2 fun f => f.d q hq rfl⟩
  · rw [List.getElem?_map] at e
    obtain ⟨y, e2, rfl⟩ := Option.map_eq_some_iff.mp e
    have sl := I.sl i y e2
    cases y with
    | no => trivial
    | val d => obtain ⟨v, e3, r⟩ := sl; exact ⟨v, e3, r.mono zz⟩
    | own ds =>
      obtain ⟨p, vs, ep, hp, f, n, r⟩ := sl
      exact ⟨.ref p, ep, .lst (by rw [yes p i (by unfold OwnL; rw [e2]; trivial) ep]; exact hp) (r.mono zz)⟩
    | ob c fs =>
      have := List.all_eq_true.mp no _ (List.mem_of_getElem? e2)
      cases this
    | dct ks ds =>
      have := List.all_eq_true.mp no _ (List.mem_of_getElem? e2)
      cases this
    | hand => exact sl
    | tab rows => obtain ⟨T, hT, hi, e2, r⟩ := sl; exact ⟨T, hT, hi, e2, r.mono zz⟩
    | al j k => exact sl
    | exc c fs => obtain ⟨a, d, ws, e3, x3, h3, l3, r3⟩ := sl; exact ⟨a, d, ws, e3, x3, zz _ _ h3, l3, r3.mono zz⟩
  · exfalso
    unfold OwnAt at oi
    rw [List.getElem?_map] at oi
    cases q : ρ[i]? with
    | none => rw [q] at oi; exact oi
    | some y =>
      rw [q] at oi
      cases y with
      | ob c fs =>
        have := List.all_eq_true.mp no _ (List.mem_of_getElem? q)
        cases this
      | dct ks ds =>
        have := List.all_eq_true.mp no _ (List.mem_of_getElem? q)
        cases this
      | _ => exact oi
/-- back: the heap has grown, the lists stand as before -/
theorem VI.unfrz {G : Gf} {Z Z1 H H1 : Hp} {σ : L2.St} {ρ : En} {s s1 : S} (I : VI G Z H σ ρ s) (no : noOb ρ = true) (J : VI G Z1 H1 σ (ρ.map frzS) s1) (z : Same (frzZ Z H σ ρ) Z1) : VI G Z H1 σ ρ s1 := by
  have zz := (I.frzA no).2
  refine ⟨I.len, zz.trans (z.trans J.zh), I.z0, I.zn, J.keep, fun q hq => ?_, J.slf, fun q hq => ⟨(J.hid q hq).1, (I.hid q hq).2⟩, fun i x e => ?_, I.dis⟩
  · obtain ⟨st, e1, hA, _, _, hd⟩ := J.hnd q hq
    obtain ⟨_, _, _, z1, z2, _⟩ := I.hnd q hq
    exact ⟨st, e1, hA, z1, z2, hd⟩
  · have sl := I.sl i x e
    cases x with
    | own ds =>
      obtain ⟨p, vs, ep, hp, f, n, r⟩ := sl
      refine ⟨p, vs, ep, J.zh _ _ (z _ _ ?_), f, n, r⟩
      rw [show frzZ Z H σ ρ p = H p from if_pos ⟨i, by unfold OwnL; rw [e]; trivial, ep⟩]
      exact hp
    | ob c fs =>
      have := List.all_eq_true.mp no _ (List.mem_of_getElem? e)
      cases this
    | dct ks ds =>
      have := List.all_eq_true.mp no _ (List.mem_of_getElem? e)
      cases this
    | _ => exact sl
def atomD : D → Bool
  | .non => true
  | .bl _ => true
  | .int _ => true
  | .str _ => true
  | _ => false
theorem atom_any {Z Z' : Hp} {v : V} {d : D} (r : Rp B Z v d) (h : atomD d = true) : Rp B Z' v d := by
  cases r with
  | non => exact .non
  | bl b => exact .bl b
  | int i => exact .int i
  | str l => exact .str l
  | _ => cases h
def eU (f : Ef) : Ef := fun ρ s => if noOb ρ then (f (ρ.map frzS) s).calm.bind fun d s1 => if atomD d then .ok d s1 else .bad else .bad
theorem ve_u {f : Ef} (h : VE B u X W e f) : VE B u X W e (eU f) := by
  intro G hG
  refine pe_mono (h G hG) fun σ H Q ⟨Z, ρ, s, I, h⟩ => ?_
  unfold eU at h
  cases no : noOb ρ with
  | false => rw [no] at h; exact h.elim
  | true =>
    rw [no] at h
    have h : ROk G W σ ρ Z ((f (ρ.map frzS) s).calm.bind _) _ := h
    refine ⟨_, _, s, (I.frzA no).1, (ROk.calm h.bind).up (Same.refl _) fun d s1 h1 v Z1 H1 J z r => ?_⟩
    cases a : atomD d with
    | false => rw [a] at h1; exact h1.elim
    | true =>
      rw [a] at h1
      exact h1 v Z H1 (I.unfrz no J z) (Same.refl Z) (atom_any r a)
def tU (f : Tf) : Tf := fun ρ s => if noOb ρ then (f (ρ.map frzS) s).calm else .bad
theorem vt_u {f : Tf} (h : VT B u X W e f) : VT B u X W e (tU f) := by
  intro G hG
  refine pt_mono (h G hG) fun σ H Q ⟨Z, ρ, s, I, h⟩ => ?_
  unfold tU at h
  cases no : noOb ρ with
  | false => rw [no] at h; exact h.elim
  | true =>
    rw [no] at h
    refine ⟨_, _, s, (I.frzA no).1, (ROk.calm (show ROk G W σ ρ Z (f (ρ.map frzS) s).calm _ from h)).up (Same.refl _) fun d s1 h1 Z1 H1 J z => ?_⟩
    exact h1 Z H1 (I.unfrz no J z) (Same.refl Z)
/-- x.append(e) -/
def sApp (i : Nat) (f : Ef) : Sf := fun ρ s => match ρ[i]? with
  | some (.own ds) => (f ρ s).then ρ fun d s1 => if fit ds.length then .nx (ρ.set i (.own (ds ++ [d]))) s1 else .bad
  | _ => .bad
/-- a list of ours at slot i is changed -/
theorem VI.poke {G : Gf} {Z H : Hp} {σ : L2.St} {ρ : En} {s : S} {i : Nat} {p : Addr} {ds ds' : List D} {vs' : List V} (I : VI G Z H σ ρ s) (e : ρ[i]? = some (.own ds)) (ep : σ[i]? = some (some (.ref p))) (r : Rps G.B Z vs' ds') : VI G Z (upd H p (.lst vs')) σ (ρ.set i (.own ds')) s := by
  obtain ⟨p', vs0, ep', hp, f, n, _⟩ := I.sl i _ e
  rw [ep] at ep'; cases ep'
  have hi : i < ρ.length := (List.getElem?_eq_some_iff.mp e).1
  have oi : OwnAt ρ i := by unfold OwnAt; rw [e]; trivial
  have zne : ∀ b o, Z b = some o → b ≠ p := fun b o q => ne_of_none q f.z
  have oth : ∀ j q, j ≠ i → OwnAt ρ j → σ[j]? = some (some (.ref q)) → q ≠ p := fun j q nj oj ej c => by
    subst c
    exact I.dis j i q nj oj oi ej ep
  refine ⟨by rw [List.length_set]; exact I.len, fun b o q => by rw [upd_ne (zne b o q)]; exact I.zh b o q, I.z0, I.zn, fun b o q h1 h2 => ?_, fun q hq => ?_, fun x hx => ?_, fun q hq => ?_, fun j x q => ?_, fun j k q nj oj ok ej => ?_⟩
  · rw [upd_ne (ne_of_none q n)]; exact I.keep b o q h1 h2
  · obtain ⟨st, e1, hA, z1, z2, hd⟩ := I.hnd q hq
    exact ⟨st, e1, ⟨by rw [upd_ne (Ne.symm (f.h q hq).1)]; exact hA.ea, by rw [upd_ne (Ne.symm (f.h q hq).2)]; exact hA.el, hA.ne⟩, z1, z2, hd⟩
  · by_cases c : x = p
    · subst c; rw [upd_same]; exact fun z => nomatch z
    · rw [upd_ne c]; exact I.slf x hx
  · rw [upd_ne (Ne.symm (f.d q hq))]; exact I.hid q hq
  · by_cases c : i = j
    · subst c
      rw [List.getElem?_set_self hi] at q
      cases q
      exact ⟨p, vs', ep, upd_same, f, n, r⟩
    · rw [List.getElem?_set_ne c] at q
      have sl := I.sl j x q
      cases x with
      | own ds => obtain ⟨a, ws, e2, h2, f2, n2, r2⟩ := sl; exact ⟨a, ws, e2, by rw [upd_ne (oth j a (Ne.symm c) (by unfold OwnAt; rw [q]; trivial) e2)]; exact h2, f2, n2, r2⟩
      | dct ks ds => obtain ⟨a, ws, e2, h2, f2, n2, r2⟩ := sl; exact ⟨a, ws, e2, by rw [upd_ne (oth j a (Ne.symm c) (by unfold OwnAt; rw [q]; trivial) e2)]; exact h2, f2, n2, r2⟩
      | ob c2 fs => obtain ⟨a, dx, ws, e2, q2, h2, f2, r2⟩ := sl; exact ⟨a, dx, ws, e2, q2, by rw [upd_ne (oth j a (Ne.symm c) (by unfold OwnAt; rw [q]; trivial) e2)]; exact h2, f2, r2⟩
      | _ => exact sl
  · have ow : ∀ m, OwnAt (ρ.set i (.own ds')) m → OwnAt ρ m := fun m h => by
      by_cases c : m = i
      · rw [c]; exact oi
      · exact ownAt_set h c
    exact I.dis j k q nj (ow j oj) (ow k ok) ej
theorem vs_app (i : Nat) {x m : Str} {f : Ef} {p apos cpos : Pos} (he : VE B u X W e f) (hst : starEach [e] X.env = (false, eval e X.env) :: starEach [] X.env)
    (hp : ∀ {t : TA}, PA X [e] t → PE X (.Call (.Attribute (.Name x p) m apos) [e] [] cpos) (tBM X.K "list" rAppend (tVar i) t))
    (hs : swapsWith (.Call (.Attribute (.Name x p) m apos) [e] [] cpos) none pos.line X.env = pure false := by rfl) : VS B u X W (.Expr (.Call (.Attribute (.Name x p) m apos) [e] [] cpos) pos) (sApp i f) := by
  intro G hG
  refine ps_mono (ps_expr (hp (va_cons he va_nil hst G hG)) hs) fun D' σ H ⟨Z, ρ, s, I, h⟩ => ?_
  cases e2 : ρ[i]? with
  | none => simp only [sApp, e2] at h; exact h.elim
  | some y =>
    cases y with
    | own ds =>
      simp only [sApp, e2] at h
      obtain ⟨p, vs, ep, hp2, f2, n2, r2⟩ := I.sl i _ e2
      refine ⟨.ref p, ep, .inl ⟨rfl, _, .inl (.inl hp2)⟩, Z, ρ, s, I, ?_⟩
      have h1 := SOk.from h σ
      cases ef : f ρ s with
      | bad => rw [ef] at h1; exact h1.elim
      | exc c fs s1 => rw [ef] at h1; simp only [aCons, ef, R.bind]; exact h1
      | ok d s1 =>
        rw [ef] at h1
        simp only [aCons, aNil, ef, R.bind]
        intro ws Z1 H1 I1 z1 r
        have h1 : SOk G W Z D' (if fit ds.length then .nx (ρ.set i (.own (ds ++ [d]))) s1 else .bad) := h1
        cases hf : fit ds.length with
        | false => rw [hf] at h1; exact h1.elim
        | true =>
          rw [hf] at h1
          cases r with
          | @cons v _ _ _ rv rr =>
            cases rr
            obtain ⟨p', vs', ep', hp', f', n', r'⟩ := I1.sl i _ e2
            rw [ep] at ep'; cases ep'
            refine ⟨p, vs', v, rfl, rfl, hp', fit_lt (by rw [r'.len]; exact hf), h1 σ Z1 _ (I1.poke e2 ep (r'.app (.cons rv .nil))) z1⟩
    | _ => simp only [sApp, e2] at h; exact h.elim
end
end Vv
namespace Vv
/-- a def over things: what its body gives -/
def en0 (n : Nat) (xs : List Sl) : En := xs ++ List.replicate (n - xs.length) .no
def resP : SR → R D
  | .rt d _ => .ok d none
  | .nx _ _ => .ok .non none
  | .exc c fs _ _ => .exc c fs none
  | _ => .bad
/-- a def without a hand: n slots -/
def runP (n : Nat) (g : Sf) (ds : List D) : R D := resP (g (en0 n (ds.map .val)) none)
def resH : SR → R D
  | .rt d s => .ok d s
  | .nx _ s => .ok .non s
  | .exc c fs _ s => .exc c fs s
  | _ => .bad
/-- a def whose first parameter is the hand -/
def runH (n : Nat) (g : Sf) (ds : List D) (st : S) : R D := resH (g (en0 n (.hand :: ds.map .val)) st)
def ExE (B : Tb) (E : XK) (Z H : Hp) (St : Hp → Hp → Prop) (c : Nat) (fs : List D) : Prop :=
  ∀ d vs Z' H', St Z' H' → Z' d = some (.xd ((B.fld c).zip vs)) → vs.length = (B.fld c).length → Rps B Z' vs fs → E (.ref (B.cls c)) (some d) H'
def spP (B : Tb) (k : Nat) (F : List D → R D) : Sp := fun vs H Q E => ∃ Z ds, Same Z H ∧ ds.length = k ∧ Rps B Z vs ds ∧ match F ds with
  | .ok d _ => ∀ v Z' H', Step Z H Z' H' → Rp B Z' v d → Q v H'
  | .exc c fs _ => ExE B E Z H (Step Z H) c fs
  | .bad => False
/-- as Step, but the hand at a has moved -/
structure StepH (a : Addr) (Z H Z' H' : Hp) : Prop where
  hh : ∀ b o, b ≠ a → H b = some o → H' b = some o
  zz : Same Z Z'
  zh : Same Z' H'
  zn : ∀ p o, Z' p = some o → Z p = some o ∨ H p = none
def spH (B : Tb) (k : Nat) (F : List D → S → R D) : Sp := fun vs H Q E => ∃ Z ds a l st ws, vs = .ref a :: ws ∧ Same Z H ∧ ds.length = k ∧ Rps B Z ws ds ∧ HandAt H a l st ∧ Z a = none ∧ Z l = none ∧ match F ds (some st) with
  | .ok d s => ∀ v Z' H' st', s = some st' → StepH a Z H Z' H' → HandAt H' a l st' → Rp B Z' v d → Q v H'
  | .exc c fs s => ExE B E Z H (fun Z' H' => ∃ st', s = some st' ∧ StepH a Z H Z' H' ∧ HandAt H' a l st') c fs
  | .bad => False
theorem en0_at {n : Nat} {xs : List Sl} {i : Nat} {x : Sl} (h : (en0 n xs)[i]? = some x) : xs[i]? = some x ∨ x = .no := by
  unfold en0 at h
  by_cases hi : i < xs.length
  · rw [List.getElem?_append_left hi] at h; exact .inl h
  · rw [List.getElem?_append_right (by omega)] at h
    exact .inr (List.eq_of_mem_replicate (List.mem_of_getElem? h))
theorem start_at {N : List Str} {vs : List V} {i : Nat} {v : V} (h : vs[i]? = some v) : (L2.start N vs)[i]? = some (some v) := by
  have hi : i < vs.length := (List.getElem?_eq_some_iff.mp h).1
  unfold L2.start
  rw [List.getElem?_append_left (by rw [List.length_map]; exact hi), List.getElem?_map, h]
  rfl
section
variable {P : Program} {w : World} {K : PySem.W.Frag} {mg : Str → Option Value} {base : Heap}
variable {x qual : Str} {st : Stmt} {f : Addr} {fd : FuncData} {N ps : List Str} {k n : Nat} {B : Tb} {g : Sf}
theorem fnP (F : Fun K x qual st f fd) (Sc : FnScope N ps (defScope st)) (m : Nat) (hm : ps.length = m := by rfl) (hn : N.length = n := by rfl) (hmn : m ≤ n := by decide)
    (hb : ∀ (cdv : Value) (A : Around) (outer : List Env) (s : Shared) (H : Hp) (E : XK), Room k (A.deeper (envOfC qual (defScope st) s.heap.objs.size f cdv)) →
      VSs B none (cxOf (L2.CX P w) P w K mg base N qual (defScope st) f cdv A outer s H E) (fun cls d _ H => E cls d H) (defBody st) g) :
    FnOk P w K mg base (L2.CX P w) (k + 1) f fd ps (spP B m (runP n g)) := by
  refine F.okX Sc (fun vs H Q E ⟨Z, ds, z, hl, r, _⟩ => by rw [r.len, hl, hm]) fun cdv A outer s H vs Q E hr h => ?_
  obtain ⟨Z, ds, z, hl, r, h⟩ := h
  let G : Gf := ⟨B, Z, H, none, none, [], none, []⟩
  refine ⟨_, hb cdv A outer s H E hr G ⟨rfl, rfl⟩, Z, en0 n (ds.map .val), none, ?_, ?_⟩
  · refine ⟨?_, z, Same.refl Z, fun p o e => .inl e, fun b o e _ _ => e, (fun _ e => nomatch e), (fun _ e => nomatch e), (fun _ e => nomatch e), fun i x e => ?_, fun i j p _ oi => ?_⟩
    · have hv := r.len
      unfold en0 L2.start
      simp only [List.length_append, List.length_replicate, List.length_map]
      omega
    · rcases en0_at e with q | rfl
      · rw [List.getElem?_map] at q
        obtain ⟨d, e1, rfl⟩ := Option.map_eq_some_iff.mp q
        obtain ⟨v, e2, rv⟩ := r.at e1
        exact ⟨v, start_at e2, rv⟩
      · trivial
    · exfalso
      unfold OwnAt at oi
      cases q : (en0 n (ds.map Sl.val))[i]? with
      | none => rw [q] at oi; exact oi
      | some y =>
        rw [q] at oi
        rcases en0_at q with q2 | rfl
        · rw [List.getElem?_map] at q2
          obtain ⟨d, e1, rfl⟩ := Option.map_eq_some_iff.mp q2
          exact oi
        · exact oi
  · have stp : ∀ {σ ρ s' Z' H'}, VI G Z' H' σ ρ s' → Same Z Z' → Step Z H Z' H' := fun {σ ρ s' Z' H'} I z1 => ⟨fun b o e => I.keep b o e (fun _ e => nomatch e) (fun _ e => nomatch e), z1, I.zh, I.zn⟩
    unfold runP resP at h
    cases eg : g (en0 n (ds.map .val)) none with
    | nx ρ' s' => rw [eg] at h; exact fun σ Z' H' I z1 => h .non Z' H' (stp I z1) .non
    | rt d s' => rw [eg] at h; exact fun v σ ρ Z' H' I z1 rv => h v Z' H' (stp I z1) rv
    | exc c fs ρ' s' => rw [eg] at h; exact fun σ d vs Z' H' I z1 e l rs => h d vs Z' H' (stp I z1) e l rs
    | bk ρ' s' => rw [eg] at h; exact h.elim
    | ct ρ' s' => rw [eg] at h; exact h.elim
    | bad => rw [eg] at h; exact h.elim
theorem fnH (F : Fun K x qual st f fd) (Sc : FnScope N ps (defScope st)) (m : Nat) (hm : ps.length = m + 1 := by rfl) (hn : N.length = n := by rfl) (hmn : m + 1 ≤ n := by decide)
    (hb : ∀ (cdv : Value) (A : Around) (outer : List Env) (s : Shared) (H : Hp) (E : XK), Room k (A.deeper (envOfC qual (defScope st) s.heap.objs.size f cdv)) →
      VSs B none (cxOf (L2.CX P w) P w K mg base N qual (defScope st) f cdv A outer s H E) (fun cls d _ H => E cls d H) (defBody st) g) :
    FnOk P w K mg base (L2.CX P w) (k + 1) f fd ps (spH B m (runH n g)) := by
  refine F.okX Sc (fun vs H Q E ⟨Z, ds, a, l, st, ws, ev, z, hl, r, _⟩ => by rw [ev, List.length_cons, r.len, hl, hm]) fun cdv A outer s H vs Q E hr h => ?_
  obtain ⟨Z, ds, a, l, hs, ws, rfl, z, hl, r, hA, za, zl, h⟩ := h
  let G : Gf := ⟨B, Z, H, some (a, l), none, [], none, []⟩
  refine ⟨_, hb cdv A outer s H E hr G ⟨rfl, rfl⟩, Z, en0 n (.hand :: ds.map .val), some hs, ?_, ?_⟩
  · have at_ : ∀ {i : Nat} {x : Sl}, (en0 n (.hand :: ds.map Sl.val))[i]? = some x → x = .no ∨ (i = 0 ∧ x = .hand) ∨ ∃ d v, x = .val d ∧ (V.ref a :: ws)[i]? = some v ∧ Rp B Z v d := fun {i x} e => by
      rcases en0_at e with q | rfl
      · cases i with
        | zero => cases q; exact .inr (.inl ⟨rfl, rfl⟩)
        | succ i =>
          rw [List.getElem?_cons_succ, List.getElem?_map] at q
          obtain ⟨d, e1, rfl⟩ := Option.map_eq_some_iff.mp q
          obtain ⟨v, e2, rv⟩ := r.at e1
          exact .inr (.inr ⟨d, v, rfl, e2, rv⟩)
      · exact .inl rfl
    refine ⟨?_, z, Same.refl Z, fun p o e => .inl e, fun b o e _ _ => e, fun q e => ?_, (fun _ e => nomatch e), (fun _ e => nomatch e), fun i x e => ?_, fun i j p _ oi => ?_⟩
    · have hv := r.len
      unfold en0 L2.start
      simp only [List.length_append, List.length_replicate, List.length_map, List.length_cons]
      omega
    · cases e; exact ⟨hs, rfl, hA, za, zl, fun _ e => nomatch e⟩
    · rcases at_ e with rfl | ⟨rfl, rfl⟩ | ⟨d, v, rfl, e2, rv⟩
      · trivial
      · exact ⟨(a, l), rfl, start_at (v := V.ref a) rfl⟩
      · exact ⟨v, start_at e2, rv⟩
    · exfalso
      unfold OwnAt at oi
      cases q : (en0 n (.hand :: ds.map Sl.val))[i]? with
      | none => rw [q] at oi; exact oi
      | some y =>
        rw [q] at oi
        rcases at_ q with rfl | ⟨_, rfl⟩ | ⟨d, v, rfl, _⟩ <;> exact oi
  · have stp : ∀ {σ ρ s' Z' H'}, VI G Z' H' σ ρ s' → Same Z Z' → ∃ st', s' = some st' ∧ StepH a Z H Z' H' ∧ HandAt H' a l st' := fun {σ ρ s' Z' H'} I z1 => by
      obtain ⟨st', e, hA', _⟩ := I.hnd (a, l) rfl
      exact ⟨st', e, ⟨fun b o n e => I.keep b o e (fun q hq => by cases hq; exact n) (fun _ e => nomatch e), z1, I.zh, I.zn⟩, hA'⟩
    unfold runH resH at h
    cases eg : g (en0 n (.hand :: ds.map .val)) (some hs) with
    | nx ρ' s' =>
      rw [eg] at h
      intro σ Z' H' I z1
      obtain ⟨st', e, t, hA'⟩ := stp I z1
      exact h .non Z' H' st' e t hA' .non
    | rt d s' =>
      rw [eg] at h
      intro v σ ρ Z' H' I z1 rv
      obtain ⟨st', e, t, hA'⟩ := stp I z1
      exact h v Z' H' st' e t hA' rv
    | exc c fs ρ' s' => rw [eg] at h; exact fun σ d vs Z' H' I z1 e l rs => h d vs Z' H' (stp I z1) e l rs
    | bk ρ' s' => rw [eg] at h; exact h.elim
    | ct ρ' s' => rw [eg] at h; exact h.elim
    | bad => rw [eg] at h; exact h.elim
end
section
variable {B : Tb} {u : Option (Addr × Value × Option Addr)} {X : Cx} {W : WX} {pos : Pos} {e : Expr}
variable {k m : Nat} {f C : Addr} {fd : FuncData} {ps : List Str} {x : Str} {p : Pos} {es : List Expr} {fa : Af}
def pickP (F : List D → R D) (ds : List D) (s : S) : R D := match F ds with
  | .ok d _ => .ok d s
  | .exc c fs _ => .exc c fs s
  | .bad => .bad
def eCall (m : Nat) (F : List D → R D) (fa : Af) : Ef := fun ρ s => (fa ρ s).bind fun ds s1 => if ds.length = m then pickP F ds s1 else .bad
/-- from what is wanted to the callee's promise -/
theorem spP_of {G : Gf} {F : List D → R D} {σ : L2.St} {ρ : En} {s : S} {Z Z1 H1 : Hp} {ds : List D} {vs : List V} {Q : VK} (hl : ds.length = m) (I : VI G Z1 H1 σ ρ s) (z : Same Z Z1) (r : Rps G.B Z1 vs ds)
    (h : ROk G W σ ρ Z (pickP F ds s) fun d s' => ∀ v Z' H', VI G Z' H' σ ρ s' → Same Z Z' → Rp G.B Z' v d → Q v H') : spP G.B m F vs H1 Q (WE W σ) := by
  refine ⟨Z1, ds, I.zh, hl, r, ?_⟩
  unfold pickP at h
  cases ef : F ds with
  | bad => rw [ef] at h; exact h.elim
  | ok d _ => rw [ef] at h; exact fun v Z' H' t rv => h v Z' H' (I.step t) (z.trans t.zz) rv
  | exc c fs _ => rw [ef] at h; exact fun d vs Z' H' t e l rs => h d vs Z' H' (I.step t) (z.trans t.zz) e l rs
theorem ve_call (F : List D → R D) (hF : FnOk X.prog X.w X.K X.mg X.base (L2.CX X.prog X.w) k f fd ps (spP B m F)) (hr : Room k X.A) (hg : Gl X x) (hm : X.mg x = some (.ref f)) (hk : PySem.W.keepIn X.K (.ref f) = true) (hb : Binds X.K fd ps []) (tk : Takes X W)
    (ha : VA B u X W (e :: es) fa) (hdb : (x == ("__debug__" : Str)) = false := by decide) (he : starEach (e :: es) X.env = (false, eval e X.env) :: starEach es X.env := by rfl) (hpl : (backTo pos (starEach es X.env)).any (·.1) = false := by rfl) :
    VE B u X W (.Call (.Name x p) (e :: es) [] pos) (eCall m F fa) := by
  intro G hG
  have h0 := ha G hG
  obtain ⟨rfl, rfl⟩ := hG
  refine pe_mono (pe_callS (E := WE W) hF hr hg hm hk hb (fun σ => passAt tk σ) h0 hdb he hpl) fun σ H Q ⟨Z, ρ, s, I, h⟩ => ?_
  refine ⟨Z, ρ, s, I, h.bind.up (Same.refl Z) fun ds s1 h1 vs Z1 H1 I1 z1 r => ?_⟩
  by_cases hl : ds.length = m
  · rw [if_pos hl] at h1
    exact spP_of hl I1 z1 r h1
  · rw [if_neg hl] at h1
    exact h1.elim
/-- a call with the hand at slot i first -/
def eCallH (i m : Nat) (F : List D → S → R D) (fa : Af) : Ef := fun ρ s => match ρ[i]? with
  | some .hand => (fa ρ s).bind fun ds s1 => if ds.length = m then F ds s1 else .bad
  | _ => .bad
theorem VI.stepH {G : Gf} {Z H Z' H' : Hp} {σ : L2.St} {ρ : En} {s : S} {a l : Addr} {st' : HS} (I : VI G Z H σ ρ s) (hg : G.hand = some (a, l)) (t : StepH a Z H Z' H') (hA : HandAt H' a l st') : VI G Z' H' σ ρ (some st') := by
  have fz : ∀ {p o}, H p = some o → Z p = none → Z' p = none := fun {p o} h z => by
    cases e : Z' p with
    | none => rfl
    | some u =>
      rcases t.zn p u e with q | q
      · rw [z] at q; cases q
      · rw [h] at q; cases q
  obtain ⟨st, es, hA0, za, zl, hd⟩ := I.hnd (a, l) hg
  have ff : ∀ {p o}, H p = some o → G.Free Z p → G.Free Z' p := fun {p o} h f => ⟨fz h f.z, f.h, f.d⟩
  have hx : ∀ x, G.self = some x → True := fun _ _ => trivial
  refine ⟨I.len, t.zh, I.z0.trans t.zz, fun p o e => ?_, fun b o e h1 h2 => t.hh b o (h1 (a, l) hg) (I.keep b o e h1 h2), fun q hq => ?_, fun x hx => ?_, fun q hq => ?_, fun i x e => ?_, I.dis⟩
  · rcases t.zn p o e with q | q
    · exact I.zn p o q
    · exact .inr (I.h0 q)
  · rw [hg] at hq
    cases hq
    exact ⟨st', rfl, hA, fz hA0.ea za, fz hA0.el zl, hd⟩
  · cases e : H x with
    | none => exact absurd e (I.slf x hx)
    | some o =>
      by_cases c : x = a
      · rw [c, hA.ea]; exact fun z => nomatch z
      · rw [t.hh x o c e]; exact fun z => nomatch z
  · have n := (hd q hq).1
    exact ⟨t.hh _ _ n (I.hid q hq).1, fz (I.hid q hq).1 (I.hid q hq).2⟩
  · have sl := I.sl i x e
    cases x with
    | no => trivial
    | val d => obtain ⟨v, e, r⟩ := sl; exact ⟨v, e, r.mono t.zz⟩
    | own ds => obtain ⟨p, vs, e, h, f, n, r⟩ := sl; exact ⟨p, vs, e, t.hh _ _ (f.h (a, l) hg).1 h, ff h f, n, r.mono t.zz⟩
    | dct ks ds => obtain ⟨p, vs, e, h, f, n, r⟩ := sl; exact ⟨p, vs, e, t.hh _ _ (f.h (a, l) hg).1 h, ff h f, n, r.mono t.zz⟩
    | ob c fs => obtain ⟨x, dx, vs, e, q, h, f, r⟩ := sl; exact ⟨x, dx, vs, e, q, t.hh _ _ (f.h (a, l) hg).1 h, ff h f, r.mono t.zz⟩
    | hand => exact sl
    | tab rows => obtain ⟨T, hT, hi, e2, r⟩ := sl; exact ⟨T, hT, hi, e2, r.mono t.zz⟩
    | al j k => exact sl
    | exc c fs => obtain ⟨a2, d, vs, e, x2, h, l2, r⟩ := sl; exact ⟨a2, d, vs, e, x2, t.zz _ _ h, l2, r.mono t.zz⟩
theorem ve_callH (i : Nat) (F : List D → S → R D) (hF : FnOk X.prog X.w X.K X.mg X.base (L2.CX X.prog X.w) k f fd ps (spH B m F)) (hr : Room k X.A) (hg : Gl X x) (hm : X.mg x = some (.ref f)) (hk : PySem.W.keepIn X.K (.ref f) = true) (hb : Binds X.K fd ps []) (tk : Takes X W)
    (hv : PE X e (tVar i)) (ha : VA B u X W es fa) (hdb : (x == ("__debug__" : Str)) = false := by decide) (he : starEach (e :: es) X.env = (false, eval e X.env) :: starEach es X.env := by rfl) (hpl : (backTo pos (starEach es X.env)).any (·.1) = false := by rfl) :
    VE B u X W (.Call (.Name x p) (e :: es) [] pos) (eCallH i m F fa) := by
  intro G hG
  have h0 := ha G hG
  obtain ⟨rfl, rfl⟩ := hG
  refine pe_mono (pe_callS (E := WE W) hF hr hg hm hk hb (fun σ => passAt tk σ) (pa_cons hv h0 he) hdb he hpl) fun σ H Q ⟨Z, ρ, s, I, h⟩ => ?_
  cases e2 : ρ[i]? with
  | none => simp only [eCallH, e2] at h; exact h.elim
  | some y =>
    cases y with
    | hand =>
      simp only [eCallH, e2] at h
      obtain ⟨⟨a, l⟩, hq, ea⟩ := I.sl i _ e2
      refine ⟨.ref a, ea, Z, ρ, s, I, h.bind.up (Same.refl Z) fun ds s1 h1 vs Z1 H1 I1 z1 r => ?_⟩
      by_cases hl : ds.length = m
      · rw [if_pos hl] at h1
        obtain ⟨st, es, hA, za, zl, _⟩ := I1.hnd (a, l) hq
        subst es
        refine ⟨Z1, ds, a, l, st, vs, rfl, I1.zh, hl, r, hA, za, zl, ?_⟩
        cases ef : F ds (some st) with
        | bad => rw [ef] at h1; exact h1.elim
        | ok d s2 => rw [ef] at h1; intro v Z' H' st' e t hA' rv; subst e; exact h1 v Z' H' (I1.stepH hq t hA') (z1.trans t.zz) rv
        | exc c fs s2 =>
          rw [ef] at h1
          rintro d vs Z' H' ⟨st', e, t, hA'⟩ ez l rs
          subst e
          exact h1 d vs Z' H' (I1.stepH hq t hA') (z1.trans t.zz) ez l rs
      · rw [if_neg hl] at h1
        exact h1.elim
    | _ => simp only [eCallH, e2] at h; exact h.elim
end
end Vv
namespace Vv
section
variable {B : Tb} {u : Option (Addr × Value × Option Addr)} {X : Cx} {W : WX} {pos : Pos} {e o : Expr} {fo : Ef}
theorem pe_or2 {t1 t2 : TE} (h1 : PE X e t1) (h2 : PE X e t2) : PE X e (fun σ H Q => t1 σ H Q ∨ t2 σ H Q) := ⟨fun pins s σ H Q I q => q.elim (fun q => h1.run pins s σ H Q I q) fun q => h2.run pins s σ H Q I q⟩
/-- the first reading that stands -/
def eAlt (f g : Ef) : Ef := fun ρ s => match f ρ s with
  | .bad => g ρ s
  | r => r
theorem ve_alt {f g : Ef} (h1 : VE B u X W e f) (h2 : VE B u X W e g) : VE B u X W e (eAlt f g) := by
  intro G hG
  refine pe_mono (pe_or2 (h1 G hG) (h2 G hG)) fun σ H Q ⟨Z, ρ, s, I, h⟩ => ?_
  unfold eAlt at h
  cases ef : f ρ s with
  | bad => rw [ef] at h; exact .inr ⟨Z, ρ, s, I, h⟩
  | ok d s1 => rw [ef] at h; exact .inl ⟨Z, ρ, s, I, by rw [ef]; exact h⟩
  | exc c fs s1 => rw [ef] at h; exact .inl ⟨Z, ρ, s, I, by rw [ef]; exact h⟩
def fldD (c k : Nat) : D → Option D
  | .obj c' fs => if c' = c then fs[k]? else none
  | _ => none
theorem obj_of {Z : Hp} {v : V} {c : Nat} {fs : List D} (r : Rp B Z v (.obj c fs)) : ∃ a dx vs, v = .ref a ∧ Z a = some (.ins (B.cls c) dx ((B.fld c).zip vs)) ∧ vs.length = (B.fld c).length ∧ Rps B Z vs fs := by
  cases r with
  | obj h hl r => exact ⟨_, _, _, rfl, h, hl, r⟩
def ObjLk (B : Tb) (c : Nat) (f : Str) (k : Nat) : Prop := ∀ vs : List V, vs.length = (B.fld c).length → ((B.fld c).zip vs).lookup f = vs[k]?
/-- o.f, a field -/
theorem ve_fld (c k : Nat) {f : Str} (hK : X.K = B.K) (hc : Cls B.K (B.cls c)) (hn : NoAttr B.K (B.cls c) f) (lk : ObjLk B c f k) (ho : VE B u X W o fo) (hb : attributeBase o f X.env (eval o X.env) = eval o X.env := by rfl) : VE B u X W (.Attribute o f pos) (eOp1 (fldD c k) fo) := by
  intro G hG
  have h0 := ho G hG
  obtain ⟨rfl, rfl⟩ := hG
  refine pe_mono (pe_fldK (K := G.B.K) hK h0 hb) fun σ H Q h => op1_of (r := fun x H Q => ∃ a C dx fs v, x = .ref a ∧ H a = some (.ins C dx fs) ∧ Cls G.B.K C ∧ NoAttr G.B.K C f ∧ fs.lookup f = some v ∧ Q v H) ⟨fun {Z H x dx d Q} z r e q => ?_⟩ h
  cases dx with
  | obj c' fs =>
    by_cases hcc : c' = c
    · subst hcc
      obtain ⟨a, dx, vs, rfl, ha, hl, rs⟩ := obj_of r
      rw [show fldD c' k (.obj c' fs) = if c' = c' then fs[k]? else none from rfl, if_pos rfl] at e
      obtain ⟨v, ev, rv⟩ := rs.at e
      exact ⟨a, _, dx, _, v, rfl, z _ _ ha, hc, hn, by rw [lk vs hl]; exact ev, q v Z H (Step.refl z) rv⟩
    · rw [show fldD c k (.obj c' fs) = if c' = c then fs[k]? else none from rfl, if_neg hcc] at e; cases e
  | _ => cases e
def isC (c : Nat) : D → Bool
  | .obj c' _ => decide (c' = c)
  | _ => false
theorem isC_of {c : Nat} {d : D} (h : isC c d = true) : ∃ fs, d = .obj c fs := by
  cases d with
  | obj c' fs => exact ⟨fs, by rw [of_decide_eq_true h]⟩
  | _ => cases h
/-- o.f, a property -/
def eProp (c : Nat) (F : List D → R D) (fo : Ef) : Ef := fun ρ s => (fo ρ s).bind fun x s1 => if isC c x then (pickP F [x] s1).calm else .bad
/-- o.m(e, ..) -/
def eMeth (c m : Nat) (F : List D → R D) (fo : Ef) (fa : Af) : Ef := fun ρ s => (fo ρ s).bind fun x s1 => if isC c x then (fa ρ s1).bind fun ds s2 => if ds.length = m then pickP F (x :: ds) s2 else .bad else .bad
theorem zip_none {f : Str} : ∀ {l : List Str} {vs : List V}, f ∉ l → (l.zip vs).lookup f = none
  | [], _, _ => rfl
  | _ :: _, [], _ => rfl
  | x :: l, v :: vs, h => by
    have hx : (f == x) = false := beq_eq_false_iff_ne.mpr fun e => h (by rw [e]; exact List.mem_cons_self)
    rw [List.zip_cons_cons, List.lookup_cons, hx]
    exact zip_none fun q => h (List.mem_cons_of_mem _ q)
theorem ve_meth (c m : Nat) {k : Nat} {mn : Str} {f : Addr} {fd : FuncData} {ps : List Str} {es : List Expr} {fa : Af} {apos : Pos} (F : List D → R D) (hcl : Cls X.K (B.cls c)) (hm : Meth X.K (B.cls c) mn f) (hF : FnOk X.prog X.w X.K X.mg X.base (L2.CX X.prog X.w) k f fd ps (spP B (m + 1) F)) (hr : Room k X.A)
    (hb : Binds X.K fd ps []) (tk : Takes X W) (nf : mn ∉ B.fld c) (ho : VE B u X W o fo) (ha : VA B u X W (e :: es) fa) {pl : Sem Bool}
    (hst : starEach (e :: es) X.env = (false, eval e X.env) :: starEach es X.env := by rfl) (hpl : (backTo pos (starEach es X.env)).any (·.1) = false := by rfl)
    (ht : eval (.Call (.Attribute o mn apos) (e :: es) [] pos) X.env = (do let y ← eval o X.env; standAt apos.atName; let (g, first) ← holding [y] (getMethod y mn pl); callWith pos g first (backTo pos (starEach (e :: es) X.env)) (backToKw pos (keywordEach [] X.env))) := by rfl) :
    VE B u X W (.Call (.Attribute o mn apos) (e :: es) [] pos) (eMeth c m F fo fa) := by
  intro G hG
  have h0 := ho G hG
  have h1 := ha G hG
  obtain ⟨rfl, rfl⟩ := hG
  refine pe_mono (pe_methW (E := WE W) (pl := pl) h0 hcl hm hF hr hb (fun σ => passAt tk σ) h1 hst hpl ht) fun σ H Q ⟨Z, ρ, s, I, h⟩ => ?_
  refine ⟨Z, ρ, s, I, h.bind.up (Same.refl Z) fun x s1 h1 v Z1 H1 I1 z1 r => ?_⟩
  cases hc : isC c x with
  | false => rw [hc] at h1; exact h1.elim
  | true =>
    rw [hc] at h1
    obtain ⟨fs, rfl⟩ := isC_of hc
    obtain ⟨a, dx, vs, rfl, ha, hl, rs⟩ := obj_of r
    refine ⟨a, dx, _, rfl, I1.zh _ _ ha, zip_none nf, Z1, ρ, s1, I1, (ROk.bind (show ROk G W σ ρ Z ((fa ρ s1).bind _) _ from h1)).up z1 fun ds s2 h2 vs Z2 H2 I2 z2 r2 => ?_⟩
    by_cases hl2 : ds.length = m
    · rw [if_pos hl2] at h2
      exact spP_of (by rw [List.length_cons, hl2]) I2 (z1.trans z2) (.cons (r.mono z2) r2) h2
    · rw [if_neg hl2] at h2
      exact h2.elim
def resI (c n : Nat) : SR → R D
  | .nx ρ _ => match (ρ[0]? : Option Sl) with
    | some (Sl.ob c' fs) => if decide (c' = c) && decide (fs.length = n) then .ok (.obj c fs) none else .bad
    | _ => .bad
  | .exc c fs _ _ => .exc c fs none
  | _ => .bad
def runI (n c nf : Nat) (g : Sf) (ds : List D) : R D := resI c nf (g (en0 n (.ob c [] :: ds.map .val)) none)
def spI (B : Tb) (k c : Nat) (F : List D → R D) : Sp := fun vs H Q E => ∃ Z ds x dx ws, vs = .ref x :: ws ∧ Same Z H ∧ ds.length = k ∧ Rps B Z ws ds ∧ H x = some (.ins (B.cls c) dx []) ∧ Z x = none ∧ match F ds with
  | .ok d _ => ∀ Z' H' fs vs' dx', d = .obj c fs → StepH x Z H Z' H' → Z' x = none → H' x = some (.ins (B.cls c) dx' ((B.fld c).zip vs')) → vs'.length = (B.fld c).length → Rps B Z' vs' fs → Q .non H'
  | .exc c fs _ => ExE B E Z H (StepH x Z H) c fs
  | .bad => False
end
section
variable {P : Program} {w : World} {K : PySem.W.Frag} {mg : Str → Option Value} {base : Heap}
variable {x qual : Str} {st : Stmt} {f : Addr} {fd : FuncData} {N ps : List Str} {k n : Nat} {B : Tb} {g : Sf}
theorem fnI (F : Fun K x qual st f fd) (Sc : FnScope N ps (defScope st)) (m c : Nat) (hm : ps.length = m + 1 := by rfl) (hn : N.length = n := by rfl) (hmn : m + 1 ≤ n := by decide)
    (hb : ∀ (cdv : Value) (A : Around) (outer : List Env) (s : Shared) (H : Hp) (E : XK), Room k (A.deeper (envOfC qual (defScope st) s.heap.objs.size f cdv)) →
      VSs B none (cxOf (L2.CX P w) P w K mg base N qual (defScope st) f cdv A outer s H E) (fun cls d _ H => E cls d H) (defBody st) g) :
    FnOk P w K mg base (L2.CX P w) (k + 1) f fd ps (spI B m c (runI n c (B.fld c).length g)) := by
  refine F.okX Sc (fun vs H Q E ⟨Z, ds, a, l, ws, ev, z, hl, r, _⟩ => by rw [ev, List.length_cons, r.len, hl, hm]) fun cdv A outer s H vs Q E hr h => ?_
  obtain ⟨Z, ds, a, dx, ws, rfl, z, hl, r, ea, za, h⟩ := h
  let G : Gf := ⟨B, Z, H, none, some a, [], none, []⟩
  refine ⟨_, hb cdv A outer s H E hr G ⟨rfl, rfl⟩, Z, en0 n (.ob c [] :: ds.map .val), none, ?_, ?_⟩
  · have at_ : ∀ {i : Nat} {x : Sl}, (en0 n (.ob c [] :: ds.map Sl.val))[i]? = some x → x = .no ∨ (i = 0 ∧ x = .ob c []) ∨ ∃ d v, x = .val d ∧ (V.ref a :: ws)[i]? = some v ∧ Rp B Z v d := fun {i x} e => by
      rcases en0_at e with q | rfl
      · cases i with
        | zero => cases q; exact .inr (.inl ⟨rfl, rfl⟩)
        | succ i =>
          rw [List.getElem?_cons_succ, List.getElem?_map] at q
          obtain ⟨d, e1, rfl⟩ := Option.map_eq_some_iff.mp q
          obtain ⟨v, e2, rv⟩ := r.at e1
          exact .inr (.inr ⟨d, v, rfl, e2, rv⟩)
      · exact .inl rfl
    refine ⟨?_, z, Same.refl Z, fun p o e => .inl e, fun b o e _ _ => e, (fun _ e => nomatch e), fun x hx => ?_, (fun _ e => nomatch e), fun i x e => ?_, fun i j p nij oi oj => ?_⟩
    · have hv := r.len
      unfold en0 L2.start
      simp only [List.length_append, List.length_replicate, List.length_map, List.length_cons]
      omega
    · cases hx; rw [ea]; exact fun z => nomatch z
    · rcases at_ e with rfl | ⟨rfl, rfl⟩ | ⟨d, v, rfl, e2, rv⟩
      · trivial
      · exact ⟨a, dx, [], start_at (v := V.ref a) rfl, rfl, by rw [List.zip_nil_right]; exact ea, ⟨za, (fun _ e => nomatch e), (fun _ e => nomatch e)⟩, .nil⟩
      · exact ⟨v, start_at e2, rv⟩
    · exfalso
      have zero : ∀ i, OwnAt (en0 n (.ob c [] :: ds.map Sl.val)) i → i = 0 := fun i oi => by
        unfold OwnAt at oi
        cases q : (en0 n (.ob c [] :: ds.map Sl.val))[i]? with
        | none => rw [q] at oi; exact oi.elim
        | some y =>
          rw [q] at oi
          rcases at_ q with rfl | ⟨e, rfl⟩ | ⟨d, v, rfl, _⟩
          · exact oi.elim
          · exact e
          · exact oi.elim
      exact nij ((zero i oi).trans (zero j oj).symm)
  · have stp : ∀ {σ ρ s' Z' H'}, VI G Z' H' σ ρ s' → Same Z Z' → StepH a Z H Z' H' := fun {σ ρ s' Z' H'} I z1 =>
      ⟨fun b o n e => I.keep b o e (fun _ e => nomatch e) (fun x hx => by cases hx; exact n), z1, I.zh, I.zn⟩
    unfold runI at h
    cases eg : g (en0 n (.ob c [] :: ds.map .val)) none with
    | nx ρ' s' =>
      rw [eg] at h
      intro σ Z' H' I z1
      unfold resI at h
      cases e0 : ρ'[0]? with
      | none => simp only [e0] at h
      | some y =>
        cases y with
        | ob c' fs =>
          simp only [e0] at h
          cases hc : (decide (c' = c) && decide (fs.length = (B.fld c).length)) with
          | false => rw [hc] at h; exact h.elim
          | true =>
            rw [hc] at h
            obtain ⟨h1, h2⟩ := Bool.and_eq_true_iff.mp hc
            obtain rfl := of_decide_eq_true h1
            have h2 := of_decide_eq_true h2
            obtain ⟨x, dx', vs, ex, hx, hH, hf, rs⟩ := I.sl 0 _ e0
            cases hx
            exact h Z' H' fs vs dx' rfl (stp I z1) hf.z hH (by rw [rs.len, h2]) rs
        | _ => simp only [e0] at h
    | rt d s' => rw [eg] at h; exact h.elim
    | exc c fs ρ' s' => rw [eg] at h; exact fun σ d vs Z' H' I z1 e l rs => h d vs Z' H' (stp I z1) e l rs
    | bk ρ' s' => rw [eg] at h; exact h.elim
    | ct ρ' s' => rw [eg] at h; exact h.elim
    | bad => rw [eg] at h; exact h.elim
end
end Vv
namespace Vv
section
variable {B : Tb} {u : Option (Addr × Value × Option Addr)} {X : Cx} {W : WX} {pos : Pos} {e o : Expr} {fo : Ef}
variable {k m : Nat} {f : Addr} {fd : FuncData} {ps : List Str} {x : Str} {p : Pos} {es : List Expr} {fa : Af}
/-- C(e, ..) -/
theorem ve_make (c : Nat) (F : List D → R D) (M : Mk X.K (B.cls c) f) (hF : FnOk X.prog X.w X.K X.mg X.base (L2.CX X.prog X.w) k f fd ps (spI B m c F)) (hr : Room (k + 1) X.A) (hg : Gl X x) (hm : X.mg x = some (.ref (B.cls c))) (hb : Binds X.K fd ps []) (tk : Takes X W)
    (hF2 : ∀ ds d s, F ds = .ok d s → ∃ fs, d = .obj c fs ∧ fs.length = (B.fld c).length)
    (ha : VA B u X W (e :: es) fa) (hdb : (x == ("__debug__" : Str)) = false := by decide) (he : starEach (e :: es) X.env = (false, eval e X.env) :: starEach es X.env := by rfl) (hpl : (backTo pos (starEach es X.env)).any (·.1) = false := by rfl) :
    VE B u X W (.Call (.Name x p) (e :: es) [] pos) (eCall m F fa) := by
  intro G hG
  have h0 := ha G hG
  obtain ⟨rfl, rfl⟩ := hG
  refine pe_mono (pe_makeS (E := WE W) M hF hr hg hm hb (fun σ => passAt tk σ) h0 hdb he hpl) fun σ H Q ⟨Z, ρ, s, I, h⟩ => ?_
  refine ⟨Z, ρ, s, I, h.bind.up (Same.refl Z) fun ds s1 h1 vs Z1 H1 I1 z1 r y dy ny ndy ne => ?_⟩
  by_cases hl : ds.length = m
  · rw [if_pos hl] at h1
    have n2 : upd H1 dy (.own y) y = none := by rw [upd_ne (Ne.symm ne)]; exact ny
    have hs : Same H1 (upd (upd H1 dy (.own y)) y (.ins (G.B.cls c) dy [])) := same_new (same_new (Same.refl H1) ndy) n2
    have zy : Z1 y = none := I1.zh.free ny
    have stp : ∀ {Z' H'}, StepH y Z1 (upd (upd H1 dy (.own y)) y (.ins (G.B.cls c) dy [])) Z' H' → Step Z1 H1 Z' H' := fun {Z' H'} t =>
      ⟨fun b o e => t.hh b o (ne_of_none e ny) (hs b o e), t.zz, t.zh, fun p o e => (t.zn p o e).elim .inl fun q => .inr (hs.free q)⟩
    refine ⟨Z1, ds, y, dy, vs, rfl, I1.zh.trans hs, hl, r, upd_same, zy, ?_⟩
    unfold pickP at h1
    cases ef : F ds with
    | bad => rw [ef] at h1; exact h1.elim
    | ok d s2 =>
      rw [ef] at h1
      intro Z' H' fs vs' dx' ed t zn' hy hl' rs
      subst ed
      have t1 := stp t
      have zz : Same Z' (upd Z' y (.ins (G.B.cls c) dx' ((G.B.fld c).zip vs'))) := same_new (Same.refl Z') zn'
      have t2 : Step Z1 H1 (upd Z' y (.ins (G.B.cls c) dx' ((G.B.fld c).zip vs'))) H' := by
        refine ⟨t1.hh, t1.zz.trans zz, fun b o e => ?_, fun b o e => ?_⟩
        · by_cases q : b = y
          · subst q; rw [upd_same] at e; cases e; exact hy
          · rw [upd_ne q] at e; exact t1.zh b o e
        · by_cases q : b = y
          · subst q; exact .inr ny
          · rw [upd_ne q] at e; exact t1.zn b o e
      exact ⟨rfl, h1 _ _ H' (I1.step t2) (z1.trans t2.zz) (.obj upd_same hl' (rs.mono zz))⟩
    | exc c2 fs s2 =>
      rw [ef] at h1
      exact fun d vs Z' H' t e l rs => h1 d vs Z' H' (I1.step (stp t)) (z1.trans t.zz) e l rs
  · rw [if_neg hl] at h1
    exact h1.elim
def sSelf (c k : Nat) (fe : Ef) : Sf := fun ρ s => match (ρ[0]? : Option Sl) with
  | some (Sl.ob c' fs) => if decide (c' = c) && decide (fs.length = k) then (fe ρ s).then ρ fun d s1 => .nx (ρ.set 0 (.ob c (fs ++ [d]))) s1 else .bad
  | _ => .bad
def PutAt (B : Tb) (c : Nat) (f : Str) (k : Nat) : Prop := ∀ (vs : List V) (y : V), vs.length = k → putF f y ((B.fld c).zip vs) = (B.fld c).zip (vs ++ [y])
theorem VI.pokeOb {G : Gf} {Z H : Hp} {σ : L2.St} {ρ : En} {s : S} {c : Nat} {x dx : Addr} {fs fs' : List D} {vs' : List V} (I : VI G Z H σ ρ s) (e : ρ[0]? = some (.ob c fs)) (ep : σ[0]? = some (some (.ref x))) (r : Rps G.B Z vs' fs') :
    VI G Z (upd H x (.ins (G.B.cls c) dx ((G.B.fld c).zip vs'))) σ (ρ.set 0 (.ob c fs')) s := by
  obtain ⟨p', dx0, vs0, ep', hs, hp, f, _⟩ := I.sl 0 _ e
  rw [ep] at ep'; cases ep'
  have hi : 0 < ρ.length := (List.getElem?_eq_some_iff.mp e).1
  have oi : OwnAt ρ 0 := by unfold OwnAt; rw [e]; trivial
  have zne : ∀ b o, Z b = some o → b ≠ x := fun b o q => ne_of_none q f.z
  have oth : ∀ j q, j ≠ 0 → OwnAt ρ j → σ[j]? = some (some (.ref q)) → q ≠ x := fun j q nj oj ej c => by
    subst c
    exact I.dis j 0 q nj oj oi ej ep
  refine ⟨by rw [List.length_set]; exact I.len, fun b o q => by rw [upd_ne (zne b o q)]; exact I.zh b o q, I.z0, I.zn, fun b o q h1 h2 => ?_, fun q hq => ?_, fun x2 hx => ?_, fun q hq => ?_, fun j y q => ?_, fun j k q nj oj ok ej => ?_⟩
  · rw [upd_ne (h2 x hs)]; exact I.keep b o q h1 h2
  · obtain ⟨st, e1, hA, z1, z2, hd⟩ := I.hnd q hq
    exact ⟨st, e1, ⟨by rw [upd_ne (Ne.symm (f.h q hq).1)]; exact hA.ea, by rw [upd_ne (Ne.symm (f.h q hq).2)]; exact hA.el, hA.ne⟩, z1, z2, hd⟩
  · rw [hs] at hx; cases hx
    rw [upd_same]; exact fun z => nomatch z
  · rw [upd_ne (Ne.symm (f.d q hq))]; exact I.hid q hq
  · by_cases c2 : 0 = j
    · subst c2
      rw [List.getElem?_set_self hi] at q
      cases q
      exact ⟨x, dx, vs', ep, hs, upd_same, f, r⟩
    · rw [List.getElem?_set_ne c2] at q
      have sl := I.sl j y q
      cases y with
      | own ds => obtain ⟨a, ws, e2, h2, f2, n2, r2⟩ := sl; exact ⟨a, ws, e2, by rw [upd_ne (oth j a (Ne.symm c2) (by unfold OwnAt; rw [q]; trivial) e2)]; exact h2, f2, n2, r2⟩
      | dct ks ds => obtain ⟨a, ws, e2, h2, f2, n2, r2⟩ := sl; exact ⟨a, ws, e2, by rw [upd_ne (oth j a (Ne.symm c2) (by unfold OwnAt; rw [q]; trivial) e2)]; exact h2, f2, n2, r2⟩
      | ob c3 fs => obtain ⟨a, dx, ws, e2, q2, h2, f2, r2⟩ := sl; exact ⟨a, dx, ws, e2, q2, by rw [upd_ne (oth j a (Ne.symm c2) (by unfold OwnAt; rw [q]; trivial) e2)]; exact h2, f2, r2⟩
      | _ => exact sl
  · have ow : ∀ m, OwnAt (ρ.set 0 (.ob c fs')) m → OwnAt ρ m := fun m h => by
      by_cases c : m = 0
      · rw [c]; exact oi
      · exact ownAt_set h c
    exact I.dis j k q nj (ow j oj) (ow k ok) ej
theorem zip_len {l : List Str} {vs : List V} : (l.zip vs).length ≤ vs.length := by rw [List.length_zip]; exact Nat.min_le_right _ _
theorem vs_self (c k : Nat) {x fn : Str} {p1 p2 : Pos} {fe : Ef} (hK : X.K = B.K) (hx : PE X (.Name x p1) (tVar 0)) (hc : Cls B.K (B.cls c)) (hn : NoAttr B.K (B.cls c) fn) (pa : PutAt B c fn k) (hk : k < 1000) (he : VE B u X W e fe)
    (hs : swapsWith e (some (.Attribute (.Name x p1) fn p2)) pos.line X.env = pure false) : VS B u X W (.Assign [.Attribute (.Name x p1) fn p2] e pos) (sSelf c k fe) := by
  intro G hG
  have h0 := he G hG
  obtain ⟨rfl, rfl⟩ := hG
  refine ps_mono (ps_fld hx h0 hs) fun D' σ H ⟨Z, ρ, s, I, h⟩ => ?_
  cases e0 : ρ[0]? with
  | none => simp only [sSelf, e0] at h; exact h.elim
  | some y =>
    cases y with
    | ob c' fs =>
      simp only [sSelf, e0] at h
      cases hc2 : (decide (c' = c) && decide (fs.length = k)) with
      | false => rw [hc2] at h; exact h.elim
      | true =>
        rw [hc2] at h
        obtain ⟨h1, h2⟩ := Bool.and_eq_true_iff.mp hc2
        obtain rfl := of_decide_eq_true h1
        have h2 := of_decide_eq_true h2
        refine ⟨Z, ρ, s, I, (SOk.from (show SOk G W Z D' ((fe ρ s).then ρ _) from h) σ).up (Same.refl Z) fun d s1 k1 v Z1 H1 I1 z1 rv => ?_⟩
        obtain ⟨a, dx, vs, ea, hx2, hH, hf, rs⟩ := I1.sl 0 _ e0
        have hl : vs.length = k := by rw [rs.len, h2]
        refine ⟨.ref a, ea, a, _, dx, _, rfl, hH, hK ▸ hc, hK ▸ hn, Nat.lt_of_le_of_lt zip_len (by rw [hl]; exact hk), ?_⟩
        rw [pa vs v hl]
        exact k1 σ Z1 _ (I1.pokeOb e0 ea (rs.app (.cons rv .nil))) z1
    | _ => simp only [sSelf, e0] at h; exact h.elim
/-- self.f, a field that is there already -/
def eOb (c k : Nat) : Ef := fun ρ s => match (ρ[0]? : Option Sl) with
  | some (Sl.ob c' fs) => if c' = c then opt fs[k]? s else .bad
  | _ => .bad
theorem zip_lookup {l : List Str} {f : Str} {k : Nat} (hk : l[k]? = some f) (hn : f ∉ l.take k) : ∀ vs : List V, (l.zip vs).lookup f = vs[k]? := by
  induction l generalizing k with
  | nil => simp at hk
  | cons x l ih =>
    intro vs
    cases vs with
    | nil => simp
    | cons v vs =>
      cases k with
      | zero =>
        simp at hk
        subst hk
        simp
      | succ k =>
        have hx : f ≠ x := fun e => hn (by rw [e]; simp)
        rw [List.zip_cons_cons, List.lookup_cons, beq_eq_false_iff_ne.mpr hx]
        exact ih (by simpa using hk) (fun q => hn (by rw [List.take_succ_cons]; exact List.mem_cons_of_mem _ q)) vs
theorem ve_ob (c k : Nat) {x fn : Str} {p1 : Pos} (hK : X.K = B.K) (hx : PE X (.Name x p1) (tVar 0)) (hc : Cls B.K (B.cls c)) (hn : NoAttr B.K (B.cls c) fn) (lk : (B.fld c)[k]? = some fn ∧ fn ∉ (B.fld c).take k) (hb : attributeBase (.Name x p1) fn X.env (eval (.Name x p1) X.env) = eval (.Name x p1) X.env := by rfl) :
    VE B u X W (.Attribute (.Name x p1) fn pos) (eOb c k) := by
  intro G hG
  obtain ⟨rfl, rfl⟩ := hG
  refine pe_mono (pe_fldK (K := G.B.K) hK hx hb) fun σ H Q ⟨Z, ρ, s, I, h⟩ => ?_
  cases e0 : ρ[0]? with
  | none => simp only [eOb, e0] at h; exact h.elim
  | some y =>
    cases y with
    | ob c' fs =>
      simp only [eOb, e0] at h
      by_cases hcc : c' = c
      · subst hcc
        rw [if_pos rfl] at h
        obtain ⟨d, ed, q⟩ := h.opt
        obtain ⟨a, dx, vs, ea, hx2, hH, hf, rs⟩ := I.sl 0 _ e0
        obtain ⟨v, ev, rv⟩ := rs.at ed
        exact ⟨.ref a, ea, a, _, dx, _, v, rfl, hH, hc, hn, by rw [zip_lookup lk.1 lk.2]; exact ev, q v Z H I (Same.refl Z) rv⟩
      · rw [if_neg hcc] at h; exact h.elim
    | _ => simp only [eOb, e0] at h; exact h.elim
def SpMk (B : Tb) (c m : Nat) (sp : Sp) : Prop := ∀ (vs : List V) (H : Hp) (Q : XK), vs.length = m → (∀ d H', Same H H' → H d = none → H' d = some (.xd ((B.fld c).zip vs.reverse)) → Q (.ref (B.cls c)) (some d) H') →
  vs.length ≤ 1000 ∧ ∀ a, H a = none → sp (.ref a :: (vs ++ [])) (upd H a (exo a (B.cls c) none)) (fun v H2 => v = .non ∧ ∃ (d : Addr) (fs : List (Str × V)), H2 a = some (exo a (B.cls c) (some d)) ∧ H2 d = some (exd d fs) ∧ H d = none ∧ Q (.ref (B.cls c)) (some d) (upd (del H2 a) d (.xd fs))) (fun _ _ _ => False)
theorem spMk1 {c : Nat} {f : Str} (T : OexC B.K (B.cls c)) (hn : PySem.W.findIn B.K (.ref (B.cls c)) f = some none) (hf : B.fld c = [f]) : SpMk B c 1 (spE1 B.K f) := fun vs H Q hl q => by
  match vs, hl, q with
  | [v], _, q =>
    rw [hf] at q
    exact made1 T hn q
theorem spMk2 {c : Nat} {f g : Str} (T : OexC B.K (B.cls c)) (h1 : PySem.W.findIn B.K (.ref (B.cls c)) f = some none) (h2 : PySem.W.findIn B.K (.ref (B.cls c)) g = some none) (hf : B.fld c = [g, f]) : SpMk B c 2 (spE2 B.K f g) := fun vs H Q hl q => by
  match vs, hl, q with
  | [v, w], _, q =>
    rw [hf] at q
    exact made2 T h1 h2 q
def sRaise (c m : Nat) (fa : Af) : Sf := fun ρ s => (fa ρ s).then ρ fun ds s1 => if ds.length = m then .exc c ds.reverse ρ s1 else .bad
theorem vs_raise (c m : Nat) {sp : Sp} (hc : X.calm = true) (tk : Takes X W) (hm : (B.fld c).length = m) (mk : SpMk B c m sp) (hp : ∀ {ta : TA}, PA X es ta → PMk X e (tMkO (B.cls c) sp [] ta)) (ha : VA B u X W es fa) : VS B u X W (.Raise (some e) none pos) (sRaise c m fa) := by
  intro G hG
  have h0 := ha G hG
  obtain ⟨rfl, rfl⟩ := hG
  refine ps_mono (ps_raise hc tk (hp h0)) fun D' σ H ⟨Z, ρ, s, I, h⟩ => ?_
  refine ⟨Z, ρ, s, I, (SOk.from h σ).up (Same.refl Z) fun ds s1 h1 vs Z1 H1 I1 z1 r => ?_⟩
  by_cases hl : ds.length = m
  · rw [if_pos hl] at h1
    refine mk vs H1 (fun cls d H' => W cls d σ H') (by rw [r.len, hl]) fun d H' hs hd ed => ?_
    have zd : Z1 d = none := I1.zh.free hd
    have zz : Same Z1 (upd Z1 d (.xd ((G.B.fld c).zip vs.reverse))) := same_new (Same.refl Z1) zd
    have t : Step Z1 H1 (upd Z1 d (.xd ((G.B.fld c).zip vs.reverse))) H' := by
      refine ⟨hs, zz, fun b o e => ?_, fun b o e => ?_⟩
      · by_cases q : b = d
        · subst q; rw [upd_same] at e; cases e; exact ed
        · rw [upd_ne q] at e; exact hs _ _ (I1.zh b o e)
      · by_cases q : b = d
        · subst q; exact .inr hd
        · rw [upd_ne q] at e; exact .inl e
    exact h1 σ d vs.reverse _ H' (I1.step t) (z1.trans zz) upd_same (by rw [List.length_reverse, r.len, hl, hm]) (r.rev.mono zz)
  · rw [if_neg hl] at h1
    exact h1.elim
def noX : Sl → Sl
  | .exc _ _ => .no
  | x => x
theorem VI.reux {G : Gf} {Z H : Hp} {σ : L2.St} {ρ : En} {s : S} (I : VI G Z H σ ρ s) (ux : Option (Addr × Value × Option Addr)) : VI { G with ux := ux } Z H σ (ρ.map noX) s := by
  have own : ∀ i, OwnAt (ρ.map noX) i → OwnAt ρ i := fun i h => by
    unfold OwnAt at h ⊢
    rw [List.getElem?_map] at h
    cases q : ρ[i]? with
    | none => rw [q] at h; exact h
    | some y => rw [q] at h; cases y <;> exact h
  refine ⟨by rw [List.length_map]; exact I.len, I.zh, I.z0, I.zn, I.keep, I.hnd, I.slf, I.hid, fun i x e => ?_, fun i j p n oi oj => I.dis i j p n (own i oi) (own j oj)⟩
  rw [List.getElem?_map] at e
  obtain ⟨y, e2, rfl⟩ := Option.map_eq_some_iff.mp e
  have sl := I.sl i y e2
  cases y with
  | exc c fs => trivial
  | no => trivial
  | val d => exact sl
  | own ds => obtain ⟨a, ws, e2, h2, f2, n2, r2⟩ := sl; exact ⟨a, ws, e2, h2, ⟨f2.z, f2.h, f2.d⟩, n2, r2⟩
  | dct ks ds => obtain ⟨a, ws, e2, h2, f2, n2, r2⟩ := sl; exact ⟨a, ws, e2, h2, ⟨f2.z, f2.h, f2.d⟩, n2, r2⟩
  | ob c fs => obtain ⟨a, dx, ws, e2, q2, h2, f2, r2⟩ := sl; exact ⟨a, dx, ws, e2, q2, h2, ⟨f2.z, f2.h, f2.d⟩, r2⟩
  | hand => exact sl
  | tab rows => exact sl
  | al j k => exact sl
/-- behind the suite of except .. as (slot i) -/
def outX (i : Nat) : SR → SR
  | .nx ρ s => .nx ((ρ.map noX).set i .no) s
  | .bk ρ s => .bk ((ρ.map noX).set i .no) s
  | .ct ρ s => .ct ((ρ.map noX).set i .no) s
  | .exc _ _ _ _ => .bad
  | r => r
def sTry (i : Nat) (sub : Nat → Option Bool) (gb gs : Sf) : Sf := fun ρ s => match gb ρ s with
  | .exc c fs ρ1 s1 => match sub c with
    | some true => outX i (gs ((ρ1.map noX).set i (.exc c fs)) s1)
    | some false => .exc c fs ρ1 s1
    | none => .bad
  | r => r
def SubOk (B : Tb) (cv : Value) (sub : Nat → Option Bool) : Prop := ∀ c b, sub c = some b → PySem.W.exmOne B.K (.ref (B.cls c)) cv = some b
theorem try_of {G : Gf} {cv : Value} {i : Nat} {sub : Nat → Option Bool} {gb gs : Sf} (hu : G.ux = none) (hsub : SubOk G.B cv sub) (ts : Addr → Value → Option Addr → TS) (hts : ∀ a cls d D' σ H, (∃ G' : Gf, (G'.B = G.B ∧ G'.ux = some (a, cls, d)) ∧ tVS G' W0 gs D' σ H) → ts a cls d D' σ H)
    {D' : Ends} {Z : Hp} {ρ : En} {s : S} (h : SOk G W Z D' (sTry i sub gb gs ρ s)) : SOk G (wAs G.B.K cv i ts W D') Z D' (gb ρ s) := by
  unfold sTry at h
  cases eb : gb ρ s with
  | nx ρ' s' => rw [eb] at h; exact h
  | rt d s' => rw [eb] at h; exact h
  | bk ρ' s' => rw [eb] at h; exact h
  | ct ρ' s' => rw [eb] at h; exact h
  | bad => rw [eb] at h; exact h.elim
  | exc c fs ρ1 s1 =>
    rw [eb] at h
    intro σ d vs Z' H' I z ez hl rs
    cases es : sub c with
    | none => simp only [es] at h; exact h.elim
    | some b =>
      refine ⟨b, hsub c b es, fun hb a na => ?_, fun hb => ?_⟩
      · subst hb
        simp only [es] at h
        refine hts a _ _ _ _ _ ⟨{ G with ux := some (a, .ref (G.B.cls c), some d) }, ⟨rfl, rfl⟩, Z', (ρ1.map noX).set i (.exc c fs), s1, ?_, ?_⟩
        · have J := I.reux (some (a, .ref (G.B.cls c), some d))
          have J2 := J.setNo (i := i) (v := some (.ref a))
          refine J2.slots (by rw [List.length_set, List.length_set]; exact J.len) (fun j x e => ?_) fun j k p n oj ok e => ?_
          · by_cases q : i = j
            · subst q
              rw [List.getElem?_set_self'] at e
              cases q2 : (ρ1.map noX)[i]? with
              | none => rw [q2] at e; cases e
              | some y =>
                rw [q2] at e
                cases e
                have hi : i < σ.length := by
                  have := (List.getElem?_eq_some_iff.mp q2).1
                  rw [J.len] at this
                  exact this
                exact ⟨a, d, vs, List.getElem?_set_self hi, rfl, ez, hl, rs⟩
            · refine J2.sl j x ?_
              rw [List.getElem?_set_ne q] at e ⊢
              exact e
          · have ow : ∀ m, OwnAt ((ρ1.map noX).set i (.exc c fs)) m → OwnAt ((ρ1.map noX).set i .no) m := fun m h => by
              unfold OwnAt at h ⊢
              by_cases q : i = m
              · subst q
                rw [List.getElem?_set_self'] at h
                cases q2 : (ρ1.map noX)[i]? with
                | none => rw [q2] at h; exact h.elim
                | some y => rw [q2] at h; exact h.elim
              · rw [List.getElem?_set_ne q] at h ⊢; exact h
            exact J2.dis j k p n (ow j oj) (ow k ok) e
        · have back : ∀ {σ2 ρ2 s2 Z2 H2}, VI { G with ux := some (a, .ref (G.B.cls c), some d) } Z2 H2 σ2 ρ2 s2 → VI G Z2 H2 (σ2.set i none) ((ρ2.map noX).set i .no) s2 := fun {σ2 ρ2 s2 Z2 H2} I2 => by
            have := (I2.reux none).setNo (i := i) (v := none)
            have hg : ({ ({ G with ux := some (a, .ref (G.B.cls c), some d) } : Gf) with ux := none } : Gf) = G := by
              cases G
              cases hu
              rfl
            rw [hg] at this
            exact this
          have backR : ∀ {σ2 ρ2 s2 Z2 H2}, VI { G with ux := some (a, .ref (G.B.cls c), some d) } Z2 H2 σ2 ρ2 s2 → VI G Z2 H2 σ2 (ρ2.map noX) s2 := fun {σ2 ρ2 s2 Z2 H2} I2 => by
            have := I2.reux none
            have hg : ({ ({ G with ux := some (a, .ref (G.B.cls c), some d) } : Gf) with ux := none } : Gf) = G := by
              cases G
              cases hu
              rfl
            rw [hg] at this
            exact this
          cases eg : gs ((ρ1.map noX).set i (.exc c fs)) s1 with
          | nx ρ2 s2 => rw [eg] at h; exact fun σ2 Z2 H2 I2 z2 => h _ Z2 H2 (back I2) (z.trans z2)
          | bk ρ2 s2 => rw [eg] at h; exact fun σ2 Z2 H2 I2 z2 => h _ Z2 H2 (back I2) (z.trans z2)
          | ct ρ2 s2 => rw [eg] at h; exact fun σ2 Z2 H2 I2 z2 => h _ Z2 H2 (back I2) (z.trans z2)
          | rt d2 s2 => rw [eg] at h; exact fun v σ2 ρ2 Z2 H2 I2 z2 r => h v σ2 _ Z2 H2 (backR I2) (z.trans z2) r
          | exc c2 fs2 ρ2 s2 => rw [eg] at h; exact h.elim
          | bad => rw [eg] at h; exact h.elim
      · subst hb
        simp only [es] at h
        exact h σ d vs Z' H' I z ez hl rs
/-- e.f, e caught (slot i) -/
def eXf (i c k : Nat) : Ef := fun ρ s => match ρ[i]? with
  | some (.exc c' fs) => if c' = c then opt fs[k]? s else .bad
  | _ => .bad
theorem ve_xf (i c k : Nat) {a : Addr} {oe : Obj} {cls : Value} {d : Option Addr} {pn : List (Addr × Obj)} {x n : Str} {p1 : Pos} (hK : X.K = B.K) (T : XfC B.K (B.cls c)) (hno : PySem.W.findIn B.K (.ref (B.cls c)) n = some none) (lk : (B.fld c)[k]? = some n ∧ n ∉ (B.fld c).take k)
    (hz : Zc cls d oe) (hf : ∃ vs, oe.data = .fields vs) (hx : PE (X.suite a ((a, oe) :: pn)) (.Name x p1) (tVar i)) (hb : attributeBase (.Name x p1) n X.env (eval (.Name x p1) X.env) = eval (.Name x p1) X.env := by rfl) :
    VE B (some (a, cls, d)) (X.suite a ((a, oe) :: pn)) W (.Attribute (.Name x p1) n pos) (eXf i c k) := by
  intro G hG
  obtain ⟨rfl, hux⟩ := hG
  refine pe_mono (pe_xf (hK ▸ T) (hK ▸ hno) hz hf hx hb) fun σ H Q ⟨Z, ρ, s, I, h⟩ => ?_
  cases e0 : ρ[i]? with
  | none => simp only [eXf, e0] at h; exact h.elim
  | some y =>
    cases y with
    | exc c' fs =>
      simp only [eXf, e0] at h
      by_cases hcc : c' = c
      · subst hcc
        rw [if_pos rfl] at h
        obtain ⟨d2, ed, q⟩ := h.opt
        obtain ⟨a2, dd, vs, ea, hx2, hH, hl, rs⟩ := I.sl i _ e0
        rw [hux] at hx2
        cases hx2
        obtain ⟨v, ev, rv⟩ := rs.at ed
        exact ⟨_, ea, rfl, rfl, dd, _, v, rfl, I.zh _ _ hH, by rw [zip_lookup lk.1 lk.2]; exact ev, q v Z H I (Same.refl Z) rv⟩
      · rw [if_neg hcc] at h; exact h.elim
    | _ => simp only [eXf, e0] at h; exact h.elim
end
end Vv
namespace Vv
mutual
def D.eqv : D → D → Bool
  | .non, .non => true
  | .bl a, .bl b => a == b
  | .bl a, .int j => (if a then 1 else 0) == j
  | .int i, .bl b => i == (if b then 1 else 0)
  | .int i, .int j => i == j
  | .str x, .str y => x == y
  | .lst xs, .lst ys => D.eqvs xs ys
  | .tup xs, .tup ys => D.eqvs xs ys
  | _, _ => false
def D.eqvs : List D → List D → Bool
  | [], [] => true
  | x :: xs, y :: ys => D.eqv x y && D.eqvs xs ys
  | _, _ => false
end
/-- data: numbers, truths, None, texts, tuples and lists of data, at most n deep -/
def pl : Nat → D → Bool
  | _, .non => true
  | _, .bl _ => true
  | _, .int _ => true
  | _, .str l => l.all fun c => decide (c < 1114112)
  | n + 1, .tup l => l.all (pl n)
  | n + 1, .lst l => l.all (pl n)
  | _, _ => false
mutual
def toP : D → PyData
  | .bl b => .bool b
  | .int i => .int i
  | .str l => .str (sOf l)
  | .tup l => .tuple (toPs l)
  | .lst l => .list (toPs l)
  | _ => .none
def toPs : List D → List PyData
  | [] => []
  | d :: r => toP d :: toPs r
end
theorem pl_ok : ∀ (n : Nat) (d : D), pl n d = true → okD n (toP d) = true := by
  intro n
  induction n with
  | zero =>
    intro d h
    cases d with
    | str l => exact strOk_of fun c hc => of_decide_eq_true (List.all_eq_true.mp h c hc)
    | non => rfl
    | bl b => rfl
    | int i => rfl
    | _ => cases h
  | succ n ih =>
    have key : ∀ l : List D, l.all (pl n) = true → (toPs l).all (okD n) = true := by
      intro l
      induction l with
      | nil => intro _; rfl
      | cons d r ih2 =>
        intro h
        obtain ⟨h1, h2⟩ := Bool.and_eq_true_iff.mp (show (pl n d && r.all (pl n)) = true from h)
        show (okD n (toP d) && (toPs r).all (okD n)) = true
        rw [ih d h1, ih2 h2]
        rfl
    intro d h
    cases d with
    | str l => exact strOk_of fun c hc => of_decide_eq_true (List.all_eq_true.mp h c hc)
    | non => rfl
    | bl b => rfl
    | int i => rfl
    | tup l => exact key l h
    | lst l => exact key l h
    | _ => cases h
section
variable {B : Tb}
theorem pl_dp {K : PySem.W.Frag} (hK : K = B.K) {Z : Hp} : ∀ (n : Nat) (v : V) (d : D), pl n d = true → Rp B Z v d → Dp K Z v (toP d) := by
  subst hK
  intro n
  induction n with
  | zero =>
    intro v d h r
    cases r with
    | non => exact .non
    | bl b => exact .bl b
    | int i => exact .int i
    | str l => exact .str _
    | _ => cases h
  | succ n ih =>
    have key : ∀ (vs : List V) (ds : List D), ds.all (pl n) = true → Rps B Z vs ds → DpAll B.K Z vs (toPs ds) := by
      intro vs
      induction vs with
      | nil => intro ds _ r; cases r; exact .nil
      | cons v vs ih2 =>
        intro ds h r
        cases r with
        | cons h1 r =>
          obtain ⟨a, b⟩ := Bool.and_eq_true_iff.mp (show (pl n _ && List.all _ (pl n)) = true from h)
          exact .cons (ih _ _ a h1) (ih2 _ b r)
    intro v d h r
    cases r with
    | non => exact .non
    | bl b => exact .bl b
    | int i => exact .int i
    | str l => exact .str _
    | tup hs r => exact .tup hs (key _ _ h r)
    | lst hs r => exact .lst (.inl (.inl hs)) (key _ _ h r)
    | _ => cases h
theorem dp_up {K : PySem.W.Frag} {Z H : Hp} (z : Same Z H) : (∀ (v : V) (d : PyData), Dp K Z v d → Dp K H v d) := fun v d h => dp_mono z d v h
end
mutual
theorem eqv_P : ∀ x y : D, (∃ n, pl n x = true) → (∃ n, pl n y = true) → D.eqv x y = PyData.eqv (toP x) (toP y)
  | .non, y, _, ⟨m, hy⟩ => by cases y <;> simp_all [D.eqv, toP, PyData.eqv, pl]
  | .bl b, y, _, ⟨m, hy⟩ => by cases y <;> simp_all [D.eqv, toP, PyData.eqv, pl]
  | .int i, y, _, ⟨m, hy⟩ => by cases y <;> simp_all [D.eqv, toP, PyData.eqv, pl]
  | .str l, y, _, ⟨m, hy⟩ => by
    cases y with
    | str l' =>
      rw [D.eqv, toP, toP, PyData.eqv]
      by_cases e : l = l'
      · subst e; simp
      · rw [beq_eq_false_iff_ne.mpr e, beq_eq_false_iff_ne.mpr fun q => e (sOf_inj.mp q)]
    | _ => simp_all [D.eqv, toP, PyData.eqv, pl]
  | .tup l, y, ⟨n, hx⟩, ⟨m, hy⟩ => by
    cases y with
    | tup l' =>
      cases n with
      | zero => cases hx
      | succ n => cases m with
        | zero => cases hy
        | succ m =>
          rw [D.eqv, toP, toP, PyData.eqv]
          exact eqv_Ps l l' (fun d hd => ⟨n, List.all_eq_true.mp hx d hd⟩) (fun d hd => ⟨m, List.all_eq_true.mp hy d hd⟩)
    | _ => simp_all [D.eqv, toP, PyData.eqv, pl]
  | .lst l, y, ⟨n, hx⟩, ⟨m, hy⟩ => by
    cases y with
    | lst l' =>
      cases n with
      | zero => cases hx
      | succ n => cases m with
        | zero => cases hy
        | succ m =>
          rw [D.eqv, toP, toP, PyData.eqv]
          exact eqv_Ps l l' (fun d hd => ⟨n, List.all_eq_true.mp hx d hd⟩) (fun d hd => ⟨m, List.all_eq_true.mp hy d hd⟩)
    | _ => simp_all [D.eqv, toP, PyData.eqv, pl]
  | .ty _, _, ⟨n, hx⟩, _ => by cases n <;> cases hx
  | .cl _, _, ⟨n, hx⟩, _ => by cases n <;> cases hx
  | .obj _ _, _, ⟨n, hx⟩, _ => by cases n <;> cases hx
  | .dic _ _, _, ⟨n, hx⟩, _ => by cases n <;> cases hx
  | .set _, _, ⟨n, hx⟩, _ => by cases n <;> cases hx
theorem eqv_Ps : ∀ xs ys : List D, (∀ x ∈ xs, ∃ n, pl n x = true) → (∀ y ∈ ys, ∃ n, pl n y = true) → D.eqvs xs ys = PyData.eqvAll (toPs xs) (toPs ys)
  | [], [], _, _ => by rw [D.eqvs, toPs, PyData.eqvAll]
  | [], _ :: _, _, _ => by simp [D.eqvs, toPs, PyData.eqvAll]
  | _ :: _, [], _, _ => by simp [D.eqvs, toPs, PyData.eqvAll]
  | x :: xs, y :: ys, hx, hy => by
    rw [D.eqvs, toPs, toPs, PyData.eqvAll, eqv_P x y (hx x List.mem_cons_self) (hy y List.mem_cons_self), eqv_Ps xs ys (fun d hd => hx d (List.mem_cons_of_mem _ hd)) fun d hd => hy d (List.mem_cons_of_mem _ hd)]
end
def vEq (x y : D) : Option D := if pl 8 x && pl 8 y then some (.bl (D.eqv x y)) else none
def vNe (x y : D) : Option D := if pl 8 x && pl 8 y then some (.bl (!D.eqv x y)) else none
theorem okD8 {d : D} (h : pl 8 d = true) : SeqAt.shaped (toP d) = true := by
  obtain ⟨a, b, _⟩ := okD_all 8 _ (pl_ok 8 d h)
  unfold SeqAt.shaped
  rw [a, decide_eq_true (by omega)]
  rfl
section
variable {B : Tb} {u : Option (Addr × Value × Option Addr)} {X : Cx} {W : WX} {pos : Pos} {a b e : Expr} {fa fb : Ef}
theorem Op2.eq : Op2 B (rEqD B.K) vEq := ⟨fun {Z H x y dx dy d Q} z rx ry e q => by
  obtain ⟨h, rfl⟩ := ite_some e
  obtain ⟨h1, h2⟩ := Bool.and_eq_true_iff.mp h
  refine ⟨_, _, dp_up z _ _ (pl_dp rfl 8 _ _ h1 rx), dp_up z _ _ (pl_dp rfl 8 _ _ h2 ry), okD8 h1, okD8 h2, ?_⟩
  rw [← eqv_P dx dy ⟨8, h1⟩ ⟨8, h2⟩]
  exact q _ Z H (Step.refl z) (.bl _)⟩
theorem Op2.ne : Op2 B (rNeD B.K) vNe := ⟨fun {Z H x y dx dy d Q} z rx ry e q => by
  obtain ⟨h, rfl⟩ := ite_some e
  obtain ⟨h1, h2⟩ := Bool.and_eq_true_iff.mp h
  refine ⟨_, _, dp_up z _ _ (pl_dp rfl 8 _ _ h1 rx), dp_up z _ _ (pl_dp rfl 8 _ _ h2 ry), okD8 h1, okD8 h2, ?_⟩
  rw [← eqv_P dx dy ⟨8, h1⟩ ⟨8, h2⟩]
  exact q _ Z H (Step.refl z) (.bl _)⟩
theorem op_eqB (hK : X.K = B.K) (hu : X.A.units + 64 < cLine) : OpR X (compareOp .Eq) (rEqD B.K) := hK ▸ op_eqD hu
theorem op_neB (hK : X.K = B.K) (hu : X.A.units + 64 < cLine) : OpR X (compareOp .NotEq) (rNeD B.K) := hK ▸ op_neD hu
def lim (n : Nat) : Bool := decide (n ≤ 1000)
def vAdd : D → D → Option D
  | .int i, .int j => some (.int (i + j))
  | .str a, .str b => if lim (a.length + b.length) then some (.str (a ++ b)) else none
  | .lst a, .lst b => if fit (a.length + b.length) then some (.lst (a ++ b)) else none
  | .tup a, .tup b => if !a.isEmpty && fit (a.length + b.length) then some (.tup (a ++ b)) else none
  | _, _ => none
def rAddA (K : PySem.W.Frag) : R2 := fun x y H Q => (rI0 (fun i j => .int (i + j)) x y H Q ∨ rAddS x y H Q) ∨ (rCat x y H Q ∨ rCatT K x y H Q)
theorem op_addA (hK : X.K = B.K) : OpR X (binaryOp .Add) (rAddA B.K) := hK ▸ OpR.or (OpR.or op_add op_addS) (OpR.or op_cat op_catT)
theorem Op2.add : Op2 B (rAddA B.K) vAdd := ⟨fun {Z H x y dx dy d Q} z rx ry e q => by
  cases rx with
  | int i =>
    cases ry with
    | int j => cases e; exact .inl (.inl ⟨i, j, rfl, rfl, q _ Z H (Step.refl z) (.int _)⟩)
    | _ => cases e
  | str a =>
    cases ry with
    | str b =>
      obtain ⟨h, rfl⟩ := ite_some (show (if lim (a.length + b.length) then some (D.str (a ++ b)) else none) = some d from e)
      exact .inl (.inr ⟨a, b, rfl, rfl, of_decide_eq_true h, q _ Z H (Step.refl z) (.str _)⟩)
    | _ => cases e
  | @lst p vs ds ha ra =>
    cases ry with
    | @lst p2 vs2 ds2 hb rb =>
      obtain ⟨h, rfl⟩ := ite_some (show (if fit (ds.length + ds2.length) then some (D.lst (ds ++ ds2)) else none) = some d from e)
      exact .inr (.inl ⟨p, p2, vs, vs2, rfl, rfl, z _ _ ha, z _ _ hb, by rw [ra.len, rb.len]; exact fit_le h, fun a n => q _ _ _ (Step.new _ z n) (new_lst z n (ra.app rb))⟩)
    | _ => cases e
  | @tup p vs ds ha ra =>
    cases ry with
    | @tup p2 vs2 ds2 hb rb =>
      obtain ⟨h, rfl⟩ := ite_some (show (if !ds.isEmpty && fit (ds.length + ds2.length) then some (D.tup (ds ++ ds2)) else none) = some d from e)
      obtain ⟨h1, h2⟩ := Bool.and_eq_true_iff.mp h
      refine .inr (.inr ⟨p, p2, vs, vs2, rfl, rfl, seqT_mono z ha, seqT_mono z hb, fun e => ?_, by rw [ra.len, rb.len]; exact fit_le h2, fun e => ?_, fun _ a n => q _ _ _ (Step.new _ z n) (new_tup z n (ra.app rb))⟩)
      · subst e
        cases ra
        cases h1
      · subst e
        cases rb
        exact q _ Z H (Step.refl z) (.tup ha (by rw [List.append_nil]; exact ra))
    | _ => cases e
  | _ => cases e⟩
def vI (g : Int → Int → Option Int) : D → D → Option D
  | .int i, .int j => (g i j).map .int
  | _, _ => none
theorem Op2.int {C : Int → Int → Prop} {f : Int → Int → Int} {g : Int → Int → Option Int} (h : ∀ i j k, g i j = some k → C i j ∧ k = f i j) : Op2 B (rI C fun i j => .int (f i j)) (vI g) := ⟨fun {Z H x y dx dy d Q} z rx ry e q => by
  cases rx with
  | int i =>
    cases ry with
    | int j =>
      obtain ⟨k, e1, rfl⟩ := Option.map_eq_some_iff.mp (show (g i j).map D.int = some d from e)
      obtain ⟨c, rfl⟩ := h i j k e1
      exact ⟨i, j, rfl, rfl, c, q _ Z H (Step.refl z) (.int _)⟩
    | _ => cases e
  | _ => cases e⟩
theorem Op2.int0 {f : Int → Int → Int} : Op2 B (rI0 fun i j => .int (f i j)) (vI fun i j => some (f i j)) := ⟨fun {Z H x y dx dy d Q} z rx ry e q => by
  cases rx with
  | int i =>
    cases ry with
    | int j => cases e; exact ⟨i, j, rfl, rfl, q _ Z H (Step.refl z) (.int _)⟩
    | _ => cases e
  | _ => cases e⟩
def small64 (i : Int) : Bool := decide (-(2 ^ 64) < i) && decide (i < 2 ^ 64)
theorem small64_of {i : Int} (h : small64 i = true) : -(2 ^ 64) < i ∧ i < 2 ^ 64 := by
  obtain ⟨a, b⟩ := Bool.and_eq_true_iff.mp h
  exact ⟨of_decide_eq_true a, of_decide_eq_true b⟩
def gMul (i j : Int) : Option Int := if small64 i || small64 j then some (i * j) else none
theorem Op2.mul : Op2 B (rI CMul fun i j => .int (i * j)) (vI gMul) := Op2.int fun i j k e => by
  obtain ⟨h, rfl⟩ := ite_some e
  refine ⟨?_, rfl⟩
  rcases Bool.or_eq_true_iff.mp h with h | h
  · exact .inl (small64_of h)
  · exact .inr (small64_of h)
def gFdiv (i j : Int) : Option Int := if decide (0 < j) && decide (j < 1152921504606846976) then some (i / j) else none
theorem Op2.fdiv : Op2 B (rI CDivW fun i j => .int (i / j)) (vI gFdiv) := Op2.int fun i j k e => by
  obtain ⟨h, rfl⟩ := ite_some e
  obtain ⟨a, b⟩ := Bool.and_eq_true_iff.mp h
  exact ⟨cdivw (of_decide_eq_true a) (of_decide_eq_true b), rfl⟩
def gMod (i j : Int) : Option Int := if decide (0 < j) then some (i % j) else none
theorem Op2.mod : Op2 B (rI (fun _ j => 0 < j) fun i j => .int (i % j)) (vI gMod) := Op2.int fun i j k e => by
  obtain ⟨h, rfl⟩ := ite_some e
  exact ⟨of_decide_eq_true h, rfl⟩
def gPow (i j : Int) : Option Int := if decide (0 ≤ j) && (decide (j ≤ 1000000) && decide (i.natAbs < 2 ^ 64)) then some (i ^ j.toNat) else none
theorem Op2.pow : Op2 B (rI CPow fun i j => .int (i ^ j.toNat)) (vI gPow) := Op2.int fun i j k e => by
  obtain ⟨h, rfl⟩ := ite_some e
  obtain ⟨a, b⟩ := Bool.and_eq_true_iff.mp h
  obtain ⟨b, c⟩ := Bool.and_eq_true_iff.mp b
  exact ⟨⟨of_decide_eq_true a, of_decide_eq_true b, of_decide_eq_true c⟩, rfl⟩
def negD : D → Option D
  | .int i => some (.int (-i))
  | _ => none
theorem Op1.neg : Op1 B (rU fun i => .int (-i)) negD := ⟨fun {Z H x dx d Q} z rx e q => by
  cases rx with
  | int i => cases e; exact ⟨i, rfl, q _ Z H (Step.refl z) (.int _)⟩
  | _ => cases e⟩
def vCmp (g : Int → Int → Bool) : D → D → Option D
  | .int i, .int j => some (.bl (g i j))
  | _, _ => none
theorem Op2.cmp {g : Int → Int → Bool} : Op2 B (rI0 fun i j => .bl (g i j)) (vCmp g) := ⟨fun {Z H x y dx dy d Q} z rx ry e q => by
  cases rx with
  | int i =>
    cases ry with
    | int j => cases e; exact ⟨i, j, rfl, rfl, q _ Z H (Step.refl z) (.bl _)⟩
    | _ => cases e
  | _ => cases e⟩
abbrev vLt := vCmp fun i j => decide (i < j)
abbrev vLe := vCmp fun i j => decide (i ≤ j)
abbrev vGt := vCmp fun i j => decide (j < i)
def isNonD : D → Bool
  | .non => true
  | _ => false
def vIsN (neg : Bool) : D → D → Option D
  | x, .non => some (.bl (if neg then !isNonD x else isNonD x))
  | _, _ => none
theorem isNonD_of {Z : Hp} {x : V} {d : D} (r : Rp B Z x d) : decide (x = .non) = isNonD d := by cases r <;> rfl
theorem Op2.isN : Op2 B (fun x y H Q => y = .non ∧ Q (.bl (decide (x = .non))) H) (vIsN false) := ⟨fun {Z H x y dx dy d Q} z rx ry e q => by
  cases ry with
  | non =>
    have e : some (D.bl (isNonD dx)) = some d := by cases dx <;> exact e
    cases e
    exact ⟨rfl, by rw [isNonD_of rx]; exact q _ Z H (Step.refl z) (.bl _)⟩
  | _ => cases dx <;> cases e⟩
theorem Op2.notN : Op2 B (fun x y H Q => y = .non ∧ Q (.bl (!decide (x = .non))) H) (vIsN true) := ⟨fun {Z H x y dx dy d Q} z rx ry e q => by
  cases ry with
  | non =>
    have e : some (D.bl (!isNonD dx)) = some d := by cases dx <;> exact e
    cases e
    exact ⟨rfl, by rw [isNonD_of rx]; exact q _ Z H (Step.refl z) (.bl _)⟩
  | _ => cases dx <;> cases e⟩
def inD (x : D) : List D → Bool
  | [] => false
  | y :: ys => D.eqv y x || inD x ys
def vIn (neg : Bool) : D → D → Option D
  | x, .lst l => if pl 8 x && l.all (pl 7) then some (.bl (if neg then !inD x l else inD x l)) else none
  | x, .tup l => if pl 8 x && l.all (pl 7) then some (.bl (if neg then !inD x l else inD x l)) else none
  | _, _ => none
def rInA (K : PySem.W.Frag) (neg : Bool) : R2 := fun x y H Q => (if neg then rNotInD K else rInD K) x y H Q ∨ (if neg then rNotInDT K else rInDT K) x y H Q
theorem op_inA (hK : X.K = B.K) (hu : X.A.units + 65 < cLine) : OpR X (compareOp .In) (rInA B.K false) := OpR.or (op_inDK hK hu) (op_inDT hK hu)
theorem op_notInA (hK : X.K = B.K) (hu : X.A.units + 65 < cLine) : OpR X (compareOp .NotIn) (rInA B.K true) := OpR.or (op_notInDK hK hu) (op_notInDT hK hu)
theorem inD_P {x : D} (hx : ∃ n, pl n x = true) : ∀ {l : List D}, (∀ y ∈ l, ∃ n, pl n y = true) → ((toPs l).any fun z => PyData.eqv z (toP x)) = inD x l
  | [], _ => rfl
  | y :: ys, h => by
    rw [toPs, List.any_cons, inD, inD_P hx fun z hz => h z (List.mem_cons_of_mem _ hz), eqv_P y x (h y List.mem_cons_self) hx]
theorem Op2.inA {neg : Bool} : Op2 B (rInA B.K neg) (vIn neg) := ⟨fun {Z H x y dx dy d Q} z rx ry e q => by
  cases hr : ry with
  | @lst p vs ds hl r =>
    obtain ⟨h, rfl⟩ := ite_some (show (if pl 8 dx && ds.all (pl 7) then some (D.bl (if neg then !inD dx ds else inD dx ds)) else none) = some d by cases dx <;> exact e)
    obtain ⟨h1, h2⟩ := Bool.and_eq_true_iff.mp h
    have h3 : pl 8 (.lst ds) = true := h2
    have k := q _ Z H (Step.refl z) (.bl (if neg then !inD dx ds else inD dx ds))
    refine .inl ?_
    have e3 := inD_P ⟨8, h1⟩ (l := ds) fun y hy => ⟨7, List.all_eq_true.mp h2 y hy⟩
    cases neg with
    | false => exact ⟨_, toPs ds, dp_up z _ _ (pl_dp rfl 8 _ _ h1 rx), dp_up z _ _ (by have := pl_dp (K := B.K) rfl 8 _ _ h3 ry; rw [toP] at this; exact this), okD8 h1, (by have := okD8 h3; rw [toP] at this; exact this), by rw [e3]; exact k⟩
    | true => exact ⟨_, toPs ds, dp_up z _ _ (pl_dp rfl 8 _ _ h1 rx), dp_up z _ _ (by have := pl_dp (K := B.K) rfl 8 _ _ h3 ry; rw [toP] at this; exact this), okD8 h1, (by have := okD8 h3; rw [toP] at this; exact this), by rw [e3]; exact k⟩
  | @tup p vs ds hl r =>
    obtain ⟨h, rfl⟩ := ite_some (show (if pl 8 dx && ds.all (pl 7) then some (D.bl (if neg then !inD dx ds else inD dx ds)) else none) = some d by cases dx <;> exact e)
    obtain ⟨h1, h2⟩ := Bool.and_eq_true_iff.mp h
    have h3 : pl 8 (.tup ds) = true := h2
    have k := q _ Z H (Step.refl z) (.bl (if neg then !inD dx ds else inD dx ds))
    refine .inr ?_
    have e3 := inD_P ⟨8, h1⟩ (l := ds) fun y hy => ⟨7, List.all_eq_true.mp h2 y hy⟩
    cases neg with
    | false => exact ⟨_, toPs ds, dp_up z _ _ (pl_dp rfl 8 _ _ h1 rx), dp_up z _ _ (by have := pl_dp (K := B.K) rfl 8 _ _ h3 ry; rw [toP] at this; exact this), okD8 h1, (by have := okD8 h3; rw [toP] at this; exact this), by rw [e3]; exact k⟩
    | true => exact ⟨_, toPs ds, dp_up z _ _ (pl_dp rfl 8 _ _ h1 rx), dp_up z _ _ (by have := pl_dp (K := B.K) rfl 8 _ _ h3 ry; rw [toP] at this; exact this), okD8 h1, (by have := okD8 h3; rw [toP] at this; exact this), by rw [e3]; exact k⟩
  | _ => subst hr; cases dx <;> cases e⟩
end
end Vv
namespace Vv
section
variable {B : Tb} {u : Option (Addr × Value × Option Addr)} {X : Cx} {W : WX} {pos : Pos} {a b e : Expr} {fa fb : Ef}
theorem rp_str {Z : Hp} (x : Str) : Rp B Z (.str x) (.str x.cps.toList) := Rp.str (B := B) (Z := Z) x.cps.toList
def vIx : D → D → Option D
  | .lst l, .int i => atI l i
  | .tup l, .int i => atI l i
  | .str l, .int i => if lim l.length then (atI l i).map fun c => .str [c] else none
  | _, _ => none
def rIxA (K : PySem.W.Frag) : R2 := fun x y H Q => (rIxL K x y H Q ∨ rIxT K x y H Q) ∨ rIxS2 x y H Q
theorem ix_A (hK : X.K = B.K) : IxR X (rIxA B.K) := hK ▸ IxR.or (IxR.or ix_list ix_tup) ix_S
theorem Rps.atI {Z : Hp} {vs : List V} {ds : List D} {i : Int} {d : D} (r : Rps B Z vs ds) (h : L2.atI ds i = some d) : ∃ v, L2.atI vs i = some v ∧ Rp B Z v d := by
  unfold L2.atI at h ⊢
  obtain ⟨j, e1, e2⟩ := Option.bind_eq_some_iff.mp h
  obtain ⟨v, e3, rv⟩ := r.at e2
  exact ⟨v, Option.bind_eq_some_iff.mpr ⟨j, by rw [r.len]; exact e1, e3⟩, rv⟩
theorem Op2.ix : Op2 B (rIxA B.K) vIx := ⟨fun {Z H x y dx dy d Q} z rx ry e q => by
  cases rx with
  | lst h r =>
    cases ry with
    | int i =>
      obtain ⟨v, ev, rv⟩ := r.atI e
      exact .inl (.inl ⟨_, _, i, v, rfl, rfl, .inl (.inl (z _ _ h)), ev, q v Z H (Step.refl z) rv⟩)
    | _ => cases e
  | tup h r =>
    cases ry with
    | int i =>
      obtain ⟨v, ev, rv⟩ := r.atI e
      exact .inl (.inr ⟨_, _, i, v, rfl, rfl, seqT_mono z h, ev, q v Z H (Step.refl z) rv⟩)
    | _ => cases e
  | str l =>
    cases ry with
    | int i =>
      have e : (if lim l.length then (L2.atI l i).map (fun c => D.str [c]) else none) = some d := e
      cases hl : lim l.length with
      | false => rw [hl] at e; cases e
      | true =>
        rw [hl] at e
        obtain ⟨c, ec, rfl⟩ := Option.map_eq_some_iff.mp e
        exact .inr ⟨l, i, c, rfl, rfl, of_decide_eq_true hl, ec, q _ Z H (Step.refl z) (.str [c])⟩
    | _ => cases e
  | _ => cases ry <;> cases e⟩
def cutL {α : Type} (xs : List α) (lo hi : Option Int) : List α := (xs.drop (HT.sIx xs.length 0 lo)).take (HT.sIx xs.length xs.length hi - HT.sIx xs.length 0 lo)
def vSl (x : D) (lo hi : Option Int) : Option D := match x with
  | .lst l => some (.lst (cutL l lo hi))
  | .tup l => some (.tup (cutL l lo hi))
  | .str l => if lim l.length then some (.str (cutL l lo hi)) else none
  | _ => none
abbrev Of := En → S → R (Option Int)
def tVO (G : Gf) (W : WX) (f : Of) : TO := fun σ H Q => ∃ Z ρ s, VI G Z H σ ρ s ∧ ROk G W σ ρ Z (f ρ s) fun o s' => ∀ Z' H', VI G Z' H' σ ρ s' → Same Z Z' → Q o H'
def VO (B : Tb) (u : Option (Addr × Value × Option Addr)) (X : Cx) (W : WX) (e : Option Expr) (f : Of) : Prop := ∀ G : Gf, G.B = B ∧ G.ux = u → PO X e (tVO G W f)
theorem po_mono {e : Option Expr} {t t' : TO} (h : PO X e t) (m : ∀ σ H Q, t' σ H Q → t σ H Q) : PO X e t' := by
  obtain ⟨h⟩ := h
  exact ⟨by intros; exact h _ _ _ _ _ (by assumption) (m _ _ _ (by assumption))⟩
def oNone : Of := fun _ s => .ok none s
def oSome (f : Ef) : Of := fun ρ s => (f ρ s).bind fun d s1 => match d with
  | .int i => .ok (some i) s1
  | _ => .bad
theorem vo_none : VO B u X W none oNone := fun _ _ => po_mono po_none fun _ _ _ ⟨Z, _, _, I, h⟩ => h Z _ I (Same.refl Z)
theorem vo_some {f : Ef} (h : VE B u X W e f) : VO B u X W (some e) (oSome f) := by
  intro G hG
  refine po_mono (po_some (h G hG)) fun σ H Q ⟨Z, ρ, s, I, h⟩ => ⟨Z, ρ, s, I, h.bind.up (Same.refl Z) fun d s1 h1 v Z1 H1 I1 z1 r => ?_⟩
  cases r with
  | int i => exact ⟨i, rfl, h1 Z1 H1 I1 z1⟩
  | _ => exact h1.elim
def eSl (f : Ef) (fl fh : Of) : Ef := fun ρ s => (f ρ s).bind fun x s1 => (fl ρ s1).bind fun l s2 => (fh ρ s2).bind fun h s3 => opt (vSl x l h) s3
def rSlA (K : PySem.W.Frag) : V → Option Int → Option Int → Hp → VK → Prop := fun x lo hi H Q => (rSlL K x lo hi H Q ∨ L2.rSlA K x lo hi H Q) ∨ rSlS2 x lo hi H Q
theorem sl_A (hK : X.K = B.K) : SlR X (rSlA B.K) := hK ▸ SlR.or (SlR.or sl_list sl_tupA) sl_S
theorem Rps.cut {Z : Hp} {vs : List V} {ds : List D} (r : Rps B Z vs ds) (lo hi : Option Int) : Rps B Z (cutV vs lo hi) (cutL ds lo hi) := by
  unfold cutV cutL
  rw [r.len]
  exact (r.drop _).take _
theorem slice_of {K : PySem.W.Frag} (hK : K = B.K) {Z H : Hp} {x : V} {dx d : D} {lo hi : Option Int} {Q : VK} (z : Same Z H) (rx : Rp B Z x dx) (e : vSl dx lo hi = some d) (q : ∀ v Z' H', Step Z H Z' H' → Rp B Z' v d → Q v H') : rSlA K x lo hi H Q := by
  subst hK
  cases rx with
  | lst h r =>
    cases e
    exact .inl (.inl ⟨_, _, rfl, .inl (.inl (z _ _ h)), fun p n => q _ _ _ (Step.new _ z n) (new_lst z n (r.cut lo hi))⟩)
  | @tup p vs ds h r =>
    cases e
    refine .inl (.inr ⟨_, vs, rfl, seqT_mono z h, fun ⟨h1, h2⟩ => ?_, fun _ p n => q _ _ _ (Step.new _ z n) (new_tup z n (r.cut lo hi))⟩)
    rw [r.len] at h1 h2
    have ec : cutL ds lo hi = ds := by
      unfold cutL
      rw [h1, h2, List.drop_zero, Nat.sub_zero, List.take_length]
    rw [ec] at q
    exact q _ Z H (Step.refl z) (.tup h r)
  | str l =>
    obtain ⟨h, rfl⟩ := ite_some (show (if lim l.length then some (D.str (cutL l lo hi)) else none) = some d from e)
    exact .inr ⟨l, rfl, of_decide_eq_true h, q _ Z H (Step.refl z) (.str _)⟩
  | _ => cases e
theorem ve_sl {lo hi : Option Expr} {p2 : Pos} {fl fh : Of} (hK : X.K = B.K) (ha : VE B u X W a fa) (hl : VO B u X W lo fl) (hh : VO B u X W hi fh) : VE B u X W (.Subscript a (.Slice lo hi none p2) pos) (eSl fa fl fh) := by
  intro G hG
  have h0 := ha G hG
  have h1 := hl G hG
  have h2 := hh G hG
  obtain ⟨rfl, rfl⟩ := hG
  refine pe_mono (pe_slice (sl_A hK) h0 h1 h2) fun σ H Q ⟨Z, ρ, s, I, h⟩ => ?_
  refine ⟨Z, ρ, s, I, h.bind.up (Same.refl Z) fun x s1 h1 v Z1 H1 I1 z1 rv => ?_⟩
  refine ⟨Z1, ρ, s1, I1, (ROk.bind h1).up z1 fun l s2 h2 Z2 H2 I2 z2 => ?_⟩
  refine ⟨Z2, ρ, s2, I2, (ROk.bind h2).up (z1.trans z2) fun h s3 h3 Z3 H3 I3 z3 => ?_⟩
  obtain ⟨d, e, k⟩ := h3.opt
  exact slice_of rfl I3.zh (rv.mono (z2.trans z3)) e fun w Z4 H4 t r => k w Z4 H4 (I3.step t) (z1.trans (z2.trans (z3.trans t.zz))) r
variable {x : Str} {id T : String} {p : Pos} {es : List Expr} {fs : Af} {r : List V → Hp → VK → Prop} {g : List D → Option D}
theorem ve_b (hc : CallR X (.builtin id) r) (O : OpN B r g) (hg : Gl X x) (hm : X.mg x = none) (hv : bootBuiltins x = some (.builtin id)) (ha : VA B u X W (e :: es) fs) (hn : x ≠ "__name__" := by decide) (hdb : (x == ("__debug__" : Str)) = false := by decide)
    (he : starEach (e :: es) X.env = (false, eval e X.env) :: starEach es X.env := by rfl) (hpl : (backTo pos (starEach es X.env)).any (·.1) = false := by rfl) : VE B u X W (.Call (.Name x p) (e :: es) [] pos) (eOpN g fs) := by
  intro G hG
  have h0 := ha G hG
  obtain ⟨rfl, rfl⟩ := hG
  exact pe_mono (pe_callB hc hg hm hv h0 hn hdb he hpl) fun _ _ _ h => opN_of O h
theorem ve_ty (hc : CallR X (.type T) r) (O : OpN B r g) (hg : Gl X x) (hm : X.mg x = none) (hv : bootBuiltins x = some (.type T)) (ha : VA B u X W (e :: es) fs) (hn : x ≠ "__name__" := by decide) (hdb : (x == ("__debug__" : Str)) = false := by decide)
    (he : starEach (e :: es) X.env = (false, eval e X.env) :: starEach es X.env := by rfl) (hpl : (backTo pos (starEach es X.env)).any (·.1) = false := by rfl) : VE B u X W (.Call (.Name x p) (e :: es) [] pos) (eOpN g fs) := by
  intro G hG
  have h0 := ha G hG
  obtain ⟨rfl, rfl⟩ := hG
  exact pe_mono (pe_callTy hc hg hm hv h0 hn hdb he hpl) fun _ _ _ h => opN_of O h
def lenD : D → Option Nat
  | .str l => if lim l.length then some l.length else none
  | .tup l => some l.length
  | .lst l => some l.length
  | _ => none
def rLenA (K : PySem.W.Frag) : List V → Hp → VK → Prop := fun xs H Q => rLenQ K xs H Q ∨ rLenS1 xs H Q
theorem call_lenA (hK : X.K = B.K) : CallR X (.builtin "len") (rLenA B.K) := CallR.or (call_lenQ hK) call_lenS
theorem OpN.one {r : List V → Hp → VK → Prop} {g : D → Option D} {gl : List D → Option D} (hg : ∀ ds d, gl ds = some d → ∃ x, ds = [x] ∧ g x = some d)
    (h : ∀ {Z H : Hp} {x : V} {dx d : D} {Q : VK}, Same Z H → Rp B Z x dx → g dx = some d → (∀ v Z' H', Step Z H Z' H' → Rp B Z' v d → Q v H') → r [x] H Q) : OpN B r gl := ⟨fun {Z H xs ds d Q} z rs e q => by
  obtain ⟨dx, rfl, e2⟩ := hg _ _ e
  cases rs with
  | cons rx rr =>
    cases rr
    exact h z rx e2 q⟩
def g1 (g : D → Option D) : List D → Option D
  | [x] => g x
  | _ => none
theorem g1_of {g : D → Option D} (ds : List D) (d : D) (h : g1 g ds = some d) : ∃ x, ds = [x] ∧ g x = some d := by
  match ds, h with
  | [x], h => exact ⟨x, rfl, h⟩
def lenV (d : D) : Option D := (lenD d).map fun (n : Nat) => D.int (n : Int)
theorem OpN.len : OpN B (rLenA B.K) (g1 lenV) := OpN.one g1_of fun {Z H x dx d Q} z rx e q => by
  cases rx with
  | lst h r => cases e; exact .inl ⟨_, _, rfl, .inl (.inl (.inl (z _ _ h))), by rw [r.len]; exact q _ Z H (Step.refl z) (.int _)⟩
  | tup h r => cases e; exact .inl ⟨_, _, rfl, .inr (seqT_mono z h), by rw [r.len]; exact q _ Z H (Step.refl z) (.int _)⟩
  | str l =>
    obtain ⟨n, e1, rfl⟩ := Option.map_eq_some_iff.mp e
    obtain ⟨hl, rfl⟩ := ite_some (show (if lim l.length then some l.length else none) = some n from e1)
    exact .inr ⟨l, rfl, of_decide_eq_true hl, q _ Z H (Step.refl z) (.int _)⟩
  | _ => cases e
def two (g : Int → Int → Int) : List D → Option D
  | [.int i, .int j] => some (.int (g i j))
  | _ => none
def rTwo (g : Int → Int → Int) : List V → Hp → VK → Prop := fun xs H Q => ∃ i j, xs = [.int i, .int j] ∧ Q (.int (g i j)) H
theorem OpN.two {g : Int → Int → Int} : OpN B (rTwo g) (Vv.two g) := ⟨fun {Z H xs ds d Q} z rs e q => by
  match ds, rs, e with
  | [.int i, .int j], rs, e =>
    cases e
    cases rs with
    | cons r1 rs =>
      cases rs with
      | cons r2 rs =>
        cases rs
        cases r1
        cases r2
        exact ⟨i, j, rfl, q _ Z H (Step.refl z) (.int _)⟩⟩
theorem call_max2A (hc : X.calm = true) : CallR X (.builtin "max") (rTwo fun i j => if j > i then j else i) := call_max2 hc
def seqI : D → Option (List Int)
  | .lst l => dInts l
  | _ => none
def sumD (d : D) : Option D := (seqI d).map fun l => .int l.sum
theorem OpN.sum : OpN B (rSum B.K) (g1 sumD) := OpN.one g1_of fun {Z H x dx d Q} z rx e q => by
  obtain ⟨is, e1, rfl⟩ := Option.map_eq_some_iff.mp e
  cases rx with
  | lst h r =>
    have ev := dInts_of r e1
    subst ev
    exact ⟨_, is, rfl, .inl (.inl (z _ _ h)), q _ Z H (Step.refl z) (.int _)⟩
  | _ => cases e1
def maxL : List Int → Int
  | [] => 0
  | [x] => x
  | x :: r => if maxL r > x then maxL r else x
def minL : List Int → Int
  | [] => 0
  | [x] => x
  | x :: r => if minL r < x then minL r else x
theorem OpN.or {r1 r2 : List V → Hp → VK → Prop} {g1 g2 : List D → Option D} (h1 : OpN B r1 g1) (h2 : OpN B r2 g2) : OpN B (fun xs H Q => r1 xs H Q ∨ r2 xs H Q) (fun ds => (g1 ds).or (g2 ds)) := ⟨fun {Z H xs ds d Q} z rs e q => by
  cases e1 : g1 ds with
  | some d1 => rw [e1] at e; cases e; exact .inl (h1.run z rs e1 q)
  | none => rw [e1] at e; exact .inr (h2.run z rs e q)⟩
def dBls : List D → Option (List Bool)
  | [] => some []
  | .bl i :: r => (dBls r).map (i :: ·)
  | _ => none
theorem dBls_of {Z : Hp} : ∀ {vs : List V} {ds : List D} {is : List Bool}, Rps B Z vs ds → dBls ds = some is → vs = is.map V.bl
  | _, _, _, .nil, e => by cases e; rfl
  | _, _, _, .cons h r, e => by
    cases h with
    | bl i =>
      obtain ⟨js, e1, rfl⟩ := Option.map_eq_some_iff.mp (show (dBls _).map (i :: ·) = some _ from e)
      rw [dBls_of r e1]
      rfl
    | _ => cases e
def seqB : D → Option (List Bool)
  | .lst l => dBls l
  | _ => none
def allD (d : D) : Option D := (seqB d).map fun l => .bl (l.all _root_.id)
theorem OpN.allB : OpN B (rAll B.K) (g1 allD) := OpN.one g1_of fun {Z H x dx d Q} z rx e q => by
  obtain ⟨is, e1, rfl⟩ := Option.map_eq_some_iff.mp e
  cases rx with
  | lst h r =>
    have ev := dBls_of r e1
    subst ev
    exact ⟨_, is, rfl, .inl (.inl (z _ _ h)), q _ Z H (Step.refl z) (.bl _)⟩
  | _ => cases e1
theorem cr_allA (hK : X.K = B.K) (hc : X.calm = true) : CallR X (.builtin "all") (rAll B.K) := hK ▸ cr_all hc
def tupD : D → Option D
  | .lst l => some (.tup l)
  | .tup l => some (.tup l)
  | _ => none
def rTupleQ (K : PySem.W.Frag) : List V → Hp → VK → Prop := fun xs H Q => ∃ p ys, xs = [.ref p] ∧ ((SqL K H p ys ∧ ∀ l, H l = none → Q (.ref l) (upd H l (.tup ys))) ∨ (SqT K H p ys ∧ Q (.ref p) H))
theorem call_tupA (hK : X.K = B.K) : CallR X (.type "tuple") (rTupleQ B.K) := hK ▸ call_tuple_of
theorem OpN.tup : OpN B (rTupleQ B.K) (g1 tupD) := OpN.one g1_of fun {Z H x dx d Q} z rx e q => by
  cases rx with
  | lst h r => cases e; exact ⟨_, _, rfl, .inl ⟨.inl (.inl (z _ _ h)), fun p n => q _ _ _ (Step.new _ z n) (new_tup z n r)⟩⟩
  | tup h r => cases e; exact ⟨_, _, rfl, .inr ⟨seqT_mono z h, q _ Z H (Step.refl z) (.tup h r)⟩⟩
  | _ => cases e
/-- list(e), a new list -/
def lLst (f : Af) : Lf := fun ρ s => (f ρ s).bind fun ds s1 => match ds with
  | [.lst l] => .ok l s1
  | [.tup l] => .ok l s1
  | _ => .bad
theorem vf_list (hK : X.K = B.K) (hg : Gl X "list") (hm : X.mg "list" = none) (hv : bootBuiltins "list" = some (.type "list")) (ha : VA B u X W [e] fs)
    (he : starEach [e] X.env = (false, eval e X.env) :: starEach [] X.env := by rfl) (hpl : (backTo pos (starEach [] X.env)).any (·.1) = false := by rfl) : VF B u X W (.Call (.Name "list" p) [e] [] pos) (lLst fs) := by
  intro G hG
  have h0 := ha G hG
  obtain ⟨rfl, rfl⟩ := hG
  refine pe_mono (pe_callTy (call_listQ (K := G.B.K) hK) hg hm hv h0 (by decide) (by decide) he hpl) fun σ H Q ⟨Z, ρ, s, I, h⟩ => ?_
  refine ⟨Z, ρ, s, I, h.bind.up (Same.refl Z) fun ds s1 h1 vs Z1 H1 I1 z1 r => ?_⟩
  match ds, h1, r with
  | [.lst l], h1, .cons r2 .nil =>
      obtain ⟨p, vs, rfl, hp, rs⟩ := rp_lst r2
      exact ⟨p, vs, rfl, .inl (.inl (.inl (I1.zh _ _ hp))), fun q n => h1 q vs Z1 _ (I1.step (Step.newH _ I1.zh n)) z1 upd_same (I1.own1 n) rs⟩
  | [.tup l], h1, .cons r2 .nil =>
      obtain ⟨p, vs, rfl, hp, rs⟩ := rp_tup r2
      exact ⟨p, vs, rfl, .inr (seqT_mono I1.zh hp), fun q n => h1 q vs Z1 _ (I1.step (Step.newH _ I1.zh n)) z1 upd_same (I1.own1 n) rs⟩
def eM1 (g : D → D → Option D) (fo fa : Ef) : Ef := fun ρ s => (fo ρ s).bind fun x s1 => match x with
  | .str _ => (fa ρ s1).bind fun y s2 => opt (g x y) s2
  | _ => .bad
theorem ve_m1 {id : String} {name : Str} {apos : Pos} {o : Expr} {fo : Ef} {r : V → List V → Hp → VK → Prop} {g : D → D → Option D} (slot : Slot "str" name id) (ty : typeOf (.builtin id) = pure (.type "method_descriptor")) (rule : MtR X id r)
    (O : ∀ {Z H : Hp} {x y : V} {dx dy d : D} {Q : VK}, Same Z H → Rp B Z x dx → Rp B Z y dy → g dx dy = some d → (∀ v Z' H', Step Z H Z' H' → Rp B Z' v d → Q v H') → r x [y] H Q) (ho : VE B u X W o fo) (he : VE B u X W e fa)
    (hs : starEach [e] X.env = [(false, eval e X.env)] := by rfl) (hbase : attributeBase o name X.env (eval o X.env) = eval o X.env := by rfl) (hline : (apos.endLine == pos.line) = true := by rfl) :
    VE B u X W (.Call (.Attribute o name apos) [e] [] pos) (eM1 g fo fa) := by
  intro G hG
  have h0 := ho G hG
  have h1 := he G hG
  obtain ⟨rfl, rfl⟩ := hG
  refine pe_mono (pe_m1 slot ty rule h0 h1 hs hbase hline) fun σ H Q ⟨Z, ρ, s, I, h⟩ => ?_
  refine ⟨Z, ρ, s, I, h.bind.up (Same.refl Z) fun x s1 h1 v Z1 H1 I1 z1 rv => ?_⟩
  cases rv with
  | str l =>
    refine ⟨⟨_, rfl⟩, Z1, ρ, s1, I1, (ROk.bind (show ROk G W σ ρ Z ((fa ρ s1).bind _) _ from h1)).up z1 fun y s2 h2 w Z2 H2 I2 z2 rw' => ?_⟩
    obtain ⟨d, e, k⟩ := h2.opt
    exact O I2.zh (.str l) rw' e fun v Z3 H3 t r => k v Z3 H3 (I2.step t) (z1.trans (z2.trans t.zz)) r
  | _ => exact h1.elim
def countD : D → D → Option D
  | .str l, .str [c] => some (.int (l.count c : Nat))
  | _, _ => none
theorem count_ok {Z H : Hp} {x y : V} {dx dy d : D} {Q : VK} (z : Same Z H) (rx : Rp B Z x dx) (ry : Rp B Z y dy) (e : countD dx dy = some d) (q : ∀ v Z' H', Step Z H Z' H' → Rp B Z' v d → Q v H') : rCountS x [y] H Q := by
  match dx, dy, rx, ry, e with
  | .str l, .str [c], rx, ry, e =>
    cases rx
    cases ry
    cases e
    exact ⟨l, c, rfl, rfl, q _ Z H (Step.refl z) (.int _)⟩
def dStrs : List D → Option (List Str)
  | [] => some []
  | .str i :: r => (dStrs r).map (sOf i :: ·)
  | _ => none
theorem dStrs_of {Z : Hp} : ∀ {vs : List V} {ds : List D} {is : List Str}, Rps B Z vs ds → dStrs ds = some is → vs = is.map V.str
  | _, _, _, .nil, e => by cases e; rfl
  | _, _, _, .cons h r, e => by
    cases h with
    | str i =>
      obtain ⟨js, e1, rfl⟩ := Option.map_eq_some_iff.mp (show (dStrs _).map (sOf i :: ·) = some _ from e)
      rw [dStrs_of r e1]
      rfl
    | _ => cases e
def joinD : D → D → Option D
  | .str a, .lst l => (dStrs l).bind fun ys => if decide ((ys.map (·.length)).sum + ys.length * a.length ≤ 16777216) then some (.str (Txt.join (sOf a) ys).cps.toList) else none
  | .str a, .tup l => (dStrs l).bind fun ys => if decide ((ys.map (·.length)).sum + ys.length * a.length ≤ 16777216) then some (.str (Txt.join (sOf a) ys).cps.toList) else none
  | _, _ => none
def rJoin1 (K : PySem.W.Frag) : V → List V → Hp → VK → Prop := fun x xs H Q => ∃ a p, ∃ ys : List Str, x = .str a ∧ xs = [.ref p] ∧ (SqL K H p (ys.map V.str) ∨ SqT K H p (ys.map V.str)) ∧
      (ys.map (·.length)).sum + ys.length * a.length ≤ 16777216 ∧ Q (.str (Txt.join a ys)) H
theorem join_ok {Z H : Hp} {x y : V} {dx dy d : D} {Q : VK} (z : Same Z H) (rx : Rp B Z x dx) (ry : Rp B Z y dy) (e : joinD dx dy = some d) (q : ∀ v Z' H', Step Z H Z' H' → Rp B Z' v d → Q v H') : rJoin1 B.K x [y] H Q := by
  match dx, dy, rx, ry, e with
  | .str a, .lst l, rx, ry, e =>
    cases rx
    obtain ⟨p, vs, rfl, hp, rs⟩ := rp_lst ry
    obtain ⟨ys, e1, e2⟩ := Option.bind_eq_some_iff.mp e
    obtain ⟨h, rfl⟩ := ite_some e2
    have ev := dStrs_of rs e1
    subst ev
    exact ⟨_, p, ys, rfl, rfl, .inl (.inl (.inl (z _ _ hp))), by rw [sOf_len]; exact of_decide_eq_true h, q _ Z H (Step.refl z) (rp_str _)⟩
  | .str a, .tup l, rx, ry, e =>
    cases rx
    obtain ⟨p, vs, rfl, hp, rs⟩ := rp_tup ry
    obtain ⟨ys, e1, e2⟩ := Option.bind_eq_some_iff.mp e
    obtain ⟨h, rfl⟩ := ite_some e2
    have ev := dStrs_of rs e1
    subst ev
    exact ⟨_, p, ys, rfl, rfl, .inr (seqT_mono z hp), by rw [sOf_len]; exact of_decide_eq_true h, q _ Z H (Step.refl z) (rp_str _)⟩
end
end Vv
namespace Vv
inductive Tg where
  | b (n : String) | c (k : Nat)
def tgV (B : Tb) : Tg → Value
  | .b n => .type n
  | .c k => .ref (B.cls k)
def tgOf : D → Option Tg
  | .non => some (.b "NoneType")
  | .bl _ => some (.b "bool")
  | .int _ => some (.b "int")
  | .str _ => some (.b "str")
  | .tup _ => some (.b "tuple")
  | .lst _ => some (.b "list")
  | .obj c _ => some (.c c)
  | .dic _ _ => some (.b "dict")
  | _ => none
def kinds : List String := ["NoneType", "bool", "int", "str", "tuple", "list", "dict"]
def asks : List String := ["int", "bool", "str", "list", "tuple"]
def subB (a b : String) : Bool := a == b || (a == "bool" && b == "int")
theorem kitB_sub : kinds.all (fun a => asks.all fun b => decide (kitB a b = some (subB a b))) = true := by decide +kernel
/-- what is known of the classes cs -/
structure KitOk (B : Tb) (cs : List Nat) : Prop where
  obj : ∀ c ∈ cs, ∀ (H : Hp) (a dx : Addr) (fs : List (Str × V)), H a = some (.ins (B.cls c) dx fs) → TyX B.K H (.ref a) (.ref (B.cls c))
  ti : ∀ c ∈ cs, ∀ b ∈ asks, PySem.W.kitOne B.K (.ref (B.cls c)) (.type b) = some false
  it : ∀ c ∈ cs, ∀ a ∈ kinds, PySem.W.kitOne B.K (.type a) (.ref (B.cls c)) = some false
  cc : ∀ c ∈ cs, ∀ d ∈ cs, PySem.W.kitOne B.K (.ref (B.cls c)) (.ref (B.cls d)) = some (decide (c = d))
def isi1 (cs : List Nat) : Tg → D → Option Bool
  | .b a, .ty n => if asks.contains n && kinds.contains a then some (subB a n) else none
  | .c c, .ty n => if cs.contains c && asks.contains n then some false else none
  | .b a, .cl d => if cs.contains d && kinds.contains a then some false else none
  | .c c, .cl d => if cs.contains c && cs.contains d then some (decide (c = d)) else none
  | _, _ => none
def isiL (cs : List Nat) (t : Tg) : List D → Option Bool
  | [] => some false
  | x :: xs => (isi1 cs t x).bind fun a => (isiL cs t xs).map fun b => a || b
def knownT (cs : List Nat) : Tg → Bool
  | .b _ => true
  | .c c => cs.contains c
def isiD (cs : List Nat) : List D → Option D
  | [x, c] => (tgOf x).bind fun t => if knownT cs t then (isi1 cs t c).map D.bl else none
  | _ => none
def isiT (cs : List Nat) (x : D) (ts : List D) : Option D := if fit ts.length then (tgOf x).bind fun t => if knownT cs t then (isiL cs t ts).map D.bl else none else none
section
variable {B : Tb} {cs : List Nat}
theorem ty_of (k : KitOk B cs) {Z H : Hp} {x : V} {d : D} {t : Tg} (z : Same Z H) (r : Rp B Z x d) (e : tgOf d = some t) (hc : ∀ c, t = .c c → c ∈ cs) : TyX B.K H x (tgV B t) := by
  cases r with
  | non => cases e; exact .base .non
  | bl b => cases e; exact .base (.bl b)
  | int i => cases e; exact .base (.int i)
  | str l => cases e; exact .base (.str _)
  | tup h r =>
    cases e
    rcases seqT_mono z h with (h | ⟨o, h⟩) | ⟨o, its, n, h1, h2, _⟩
    · exact .base (.tup h)
    · exact .fTuple h
    · exact .kTuple h1 h2
  | lst h r => cases e; exact .base (.lst (z _ _ h))
  | dicK h hk r => cases e; exact .base (.dK (z _ _ h))
  | @obj a dx c vs ds h hl r => cases e; exact k.obj c (hc c rfl) H a dx _ (z _ _ h)
  | _ => cases e
theorem mem_of_contains {α : Type} [BEq α] [LawfulBEq α] {l : List α} {x : α} (h : l.contains x = true) : x ∈ l := List.contains_iff_mem.mp h
theorem isi1_of (k : KitOk B cs) {t : Tg} {x : D} {b : Bool} (h : isi1 cs t x = some b) : ∃ u, (∀ (Z : Hp) (v : V), Rp B Z v x → ClsV v u) ∧ PySem.W.kitOne B.K (tgV B t) u = some b ∧ ∀ c, t = .c c → c ∈ cs := by
  cases t with
  | b a =>
    cases x with
    | ty n =>
      obtain ⟨h1, rfl⟩ := ite_some (show (if asks.contains n && kinds.contains a then some (subB a n) else none) = some b from h)
      obtain ⟨h2, h3⟩ := Bool.and_eq_true_iff.mp h1
      refine ⟨.type n, fun Z v r => by cases r; exact .ty n, kit_ty ?_, fun c e => nomatch e⟩
      have := List.all_eq_true.mp (List.all_eq_true.mp kitB_sub a (mem_of_contains h3)) n (mem_of_contains h2)
      exact of_decide_eq_true this
    | cl d =>
      obtain ⟨h1, rfl⟩ := ite_some (show (if cs.contains d && kinds.contains a then some false else none) = some b from h)
      obtain ⟨h2, h3⟩ := Bool.and_eq_true_iff.mp h1
      exact ⟨.ref (B.cls d), fun Z v r => by cases r; exact .own _, k.it d (mem_of_contains h2) a (mem_of_contains h3), fun c e => nomatch e⟩
    | _ => cases h
  | c c =>
    cases x with
    | ty n =>
      obtain ⟨h1, rfl⟩ := ite_some (show (if cs.contains c && asks.contains n then some false else none) = some b from h)
      obtain ⟨h2, h3⟩ := Bool.and_eq_true_iff.mp h1
      exact ⟨.type n, fun Z v r => by cases r; exact .ty n, k.ti c (mem_of_contains h2) n (mem_of_contains h3), fun c' e => by cases e; exact mem_of_contains h2⟩
    | cl d =>
      obtain ⟨h1, rfl⟩ := ite_some (show (if cs.contains c && cs.contains d then some (decide (c = d)) else none) = some b from h)
      obtain ⟨h2, h3⟩ := Bool.and_eq_true_iff.mp h1
      exact ⟨.ref (B.cls d), fun Z v r => by cases r; exact .own _, k.cc c (mem_of_contains h2) d (mem_of_contains h3), fun c' e => by cases e; exact mem_of_contains h2⟩
    | _ => cases h
theorem isiL_of (k : KitOk B cs) {t : Tg} {Z : Hp} : ∀ {xs : List D} {vs : List V} {b : Bool}, Rps B Z vs xs → isiL cs t xs = some b → ∃ us, Paired ClsV vs us ∧ PySem.W.kitAny B.K (tgV B t) us = some b
  | [], _, b, .nil, h => by cases h; exact ⟨[], .nil, any_nil⟩
  | x :: xs, _, b, .cons hv r, h => by
    obtain ⟨c, e, h2⟩ := Option.bind_eq_some_iff.mp h
    obtain ⟨c2, e2, rfl⟩ := Option.map_eq_some_iff.mp h2
    obtain ⟨u, hu, ho, _⟩ := isi1_of k e
    obtain ⟨us, p, q⟩ := isiL_of k r e2
    cases c with
    | false => exact ⟨u :: us, .cons (hu Z _ hv) p, any_tl ho q⟩
    | true => exact ⟨u :: us, .cons (hu Z _ hv) p, any_hd ho⟩
theorem knownT_of {t : Tg} (h : knownT cs t = true) : ∀ c, t = .c c → c ∈ cs := fun c e => by
  subst e
  exact mem_of_contains h
theorem call_isiA {X : Cx} (hK : X.K = B.K) : CallR X (.builtin "isinstance") (rIsi B.K) := call_isiK' hK
theorem OpN.isi (k : KitOk B cs) : OpN B (rIsi B.K) (isiD cs) := ⟨fun {Z H xs ds d Q} z rs e q => by
  match ds, rs, e with
  | [x, c], .cons rx (.cons rc .nil), e =>
    obtain ⟨t, et, e⟩ := Option.bind_eq_some_iff.mp e
    cases kt : knownT cs t with
    | false => rw [kt] at e; cases e
    | true =>
      rw [kt] at e
      have ty := ty_of k z rx et (knownT_of kt)
      obtain ⟨b, eb, rfl⟩ := Option.map_eq_some_iff.mp (show (isi1 cs t c).map D.bl = some d from e)
      obtain ⟨u, hu, ho, _⟩ := isi1_of k eb
      exact ⟨_, _, _, u, b, rfl, hu Z _ rc, ty, ho, q _ Z H (Step.refl z) (.bl _)⟩⟩
def eIsiT (cs : List Nat) (fx : Ef) (fc : Af) : Ef := fun ρ s => (fx ρ s).bind fun x s1 => (fc ρ s1).bind fun ts s2 => opt (isiT cs x ts) s2
/-- isinstance(x, (A, B)) -/
theorem ve_isiT {u : Option (Addr × Value × Option Addr)} {X : Cx} {W : WX} {pos tpos p : Pos} {e : Expr} {es : List Expr} {kk : Nat} {fx : Ef} {fc : Af} (k : KitOk B cs) (hK : X.K = B.K) (hg : Gl X "isinstance") (hm : X.mg "isinstance" = none) (hv : bootBuiltins "isinstance" = some (.builtin "isinstance")) (hx : VE B u X W e fx) (hc : VA B u X W es fc)
    (hs1 : starEach [.Tuple es kk tpos] X.env = (false, eval (.Tuple es kk tpos) X.env) :: starEach [] X.env := by rfl)
    (he : starEach [e, .Tuple es kk tpos] X.env = (false, eval e X.env) :: starEach [.Tuple es kk tpos] X.env := by rfl) (hpl : (backTo pos (starEach [.Tuple es kk tpos] X.env)).any (·.1) = false := by rfl) :
    VE B u X W (.Call (.Name "isinstance" p) [e, .Tuple es kk tpos] [] pos) (eIsiT cs fx fc) := by
  intro G hG
  have h0 := hx G hG
  have h1 := hc G hG
  obtain ⟨rfl, rfl⟩ := hG
  refine pe_mono (pe_callB (call_isiTK (K := G.B.K) hK) hg hm hv (pa_cons h0 (pa_cons (pe_tup h1) pa_nil hs1) he) (by decide) (by decide) he hpl) fun σ H Q ⟨Z, ρ, s, I, h⟩ => ?_
  refine ⟨Z, ρ, s, I, h.bind.up (Same.refl Z) fun x s1 h1 v Z1 H1 I1 z1 rx => ?_⟩
  refine ⟨Z1, ρ, s1, I1, (ROk.bind h1).up z1 fun ts s2 h2 vs Z2 H2 I2 z2 rs => ?_⟩
  obtain ⟨d, e, q⟩ := h2.opt
  obtain ⟨hf, e⟩ : fit ts.length = true ∧ ((tgOf x).bind fun t => if knownT cs t then (isiL cs t ts).map D.bl else none) = some d := by
    unfold isiT at e
    cases hf : fit ts.length with
    | true => rw [hf] at e; exact ⟨rfl, e⟩
    | false => rw [hf] at e; cases e
  refine ⟨fit_le (by rw [rs.len]; exact hf), fun p n => ?_⟩
  obtain ⟨t, et, e⟩ := Option.bind_eq_some_iff.mp e
  cases kt : knownT cs t with
  | false => rw [kt] at e; cases e
  | true =>
    rw [kt] at e
    obtain ⟨b, eb, rfl⟩ := Option.map_eq_some_iff.mp (show (isiL cs t ts).map D.bl = some d from e)
    have st := Step.newH (.tup vs) I2.zh n
    have ty := ty_of k (I2.zh.trans st.hh) (rx.mono z2) et (knownT_of kt)
    obtain ⟨us, pr, ka⟩ := isiL_of k rs eb
    exact ⟨v, p, vs, _, us, b, rfl, upd_same, pr, ty, ka, q _ Z2 _ (I2.step st) (z1.trans z2) (.bl _)⟩
/-- classes as values -/
theorem ve_tyv {u : Option (Addr × Value × Option Addr)} {X : Cx} {W : WX} {x : Str} {n : String} {pos : Pos} (hg : Gl X x) (hm : X.mg x = none) (hv : bootBuiltins x = some (.type n)) (hn : x ≠ "__name__" := by decide) (hd : (x == ("__debug__" : Str)) = false := by decide) : VE B u X W (.Name x pos) (eC (.ty n)) :=
  ve_c (pe_bltn (v := .ty n) hg hm hv rfl hn hd) fun _ => .ty n
theorem ve_clv {u : Option (Addr × Value × Option Addr)} {X : Cx} {W : WX} {x : Str} (c : Nat) {pos : Pos} (hg : Gl X x) (hm : X.mg x = some (.ref (B.cls c))) (hd : (x == ("__debug__" : Str)) = false := by decide) : VE B u X W (.Name x pos) (eC (.cl c)) :=
  ve_c (pe_glob (v := .ref (B.cls c)) hg hm rfl hd) fun _ => .cl c
end
end Vv
namespace Vv
section
variable {B : Tb} {u : Option (Addr × Value × Option Addr)} {X : Cx} {W : WX} {pos : Pos} {e a b c : Expr} {fa fb fc : Ef}
abbrev vSub := vI fun i j => some (i - j)
theorem Op2.sub : Op2 B (rI0 fun i j => .int (i - j)) vSub := Op2.int0
def eChain (g g' : D → D → Option D) (fa fb fc : Ef) : Ef := fun ρ s => (fa ρ s).bind fun x s1 => (fb ρ s1).bind fun y s2 => (opt (g x y) s2).bind fun z s2 => match z with
  | .bl true => (fc ρ s2).bind fun w s3 => opt (g' y w) s3
  | .bl false => .ok (.bl false) s2
  | _ => .bad
theorem chain_of {G : Gf} {r r' : R2} {g g' : D → D → Option D} (O : Op2 G.B r g) (O' : Op2 G.B r' g') {σ : L2.St} {H : Hp} {Q : VK} (h : tV G W (eChain g g' fa fb fc) σ H Q) : tChain r r' (tV G W fa) (tV G W fb) (tV G W fc) σ H Q := by
  obtain ⟨Z, ρ, s, I, h⟩ := h
  refine ⟨Z, ρ, s, I, h.bind.up (Same.refl Z) fun x s1 h1 v Z1 H1 I1 z1 rv => ?_⟩
  refine ⟨Z1, ρ, s1, I1, (ROk.bind h1).up z1 fun y s2 h2 w Z2 H2 I2 z2 rw' => ?_⟩
  obtain ⟨d, e, k⟩ := (ROk.bind h2).opt
  refine O.run I2.zh (rv.mono z2) rw' e fun z Z3 H3 t r3 => ?_
  have zz := z1.trans (z2.trans t.zz)
  cases d with
  | bl bb =>
    cases r3
    cases bb with
    | false => exact ⟨false, rfl, by rw [if_neg Bool.false_ne_true]; exact k _ Z3 H3 (I2.step t) zz (.bl false)⟩
    | true =>
      refine ⟨true, rfl, ?_⟩
      rw [if_pos rfl]
      refine ⟨Z3, ρ, s2, I2.step t, (ROk.bind (show ROk G W σ ρ Z ((fc ρ s2).bind _) _ from k)).up zz fun w3 s3 h3 v3 Z4 H4 I4 z4 rv4 => ?_⟩
      obtain ⟨d4, e4, k4⟩ := h3.opt
      exact O'.run I4.zh (rw'.mono (t.zz.trans z4)) rv4 e4 fun v5 Z5 H5 t5 r5 => k4 v5 Z5 H5 (I4.step t5) (zz.trans (z4.trans t5.zz)) r5
  | _ => exact k.elim
/-- a, b = x, y -/
def sPar (i j : Nat) (fa : Af) : Sf := fun ρ s => (fa ρ s).then ρ fun ds s1 => match ds with
  | [x, y] => .nx ((ρ.set i (.val x)).set j (.val y)) s1
  | _ => .bad
theorem vs_par (i j : Nat) {x y : Str} {fs : Af} {px py pt : Pos} {kt k2 pt2} (hc : X.calm = true) (hN : X.N.Nodup) (hi : X.N[i]? = some x) (hj : X.N[j]? = some y) (hij : i ≠ j)
    (hx : X.env.scope.names.lookup x = some .local) (hy : X.env.scope.names.lookup y = some .local) (ha : VA B u X W [a, b] fs)
    (hw : swappedStores [.Tuple [.Name x px, .Name y py] kt pt] (.Tuple [a, b] k2 pt2) X.env = pure (some [x, y]))
    (hs : swapsWithSole [.Tuple [.Name x px, .Name y py] kt pt] (.Tuple [a, b] k2 pt2) pos.line X.env = pure false := by rfl) :
    VS B u X W (.Assign [.Tuple [.Name x px, .Name y py] kt pt] (.Tuple [a, b] k2 pt2) pos) (sPar i j fs) := by
  intro G hG
  have h0 := ha G hG
  obtain ⟨rfl, rfl⟩ := hG
  refine ps_mono (ps_par (i := i) (j := j) hc hN hi hj hij hx hy h0 hw hs) fun D' σ H ⟨Z, ρ, s, I, h⟩ => ?_
  refine ⟨Z, ρ, s, I, (SOk.from h σ).up (Same.refl Z) fun ds s1 h1 vs Z1 H1 I1 z1 r => ?_⟩
  match ds, r, h1 with
  | [d1, d2], .cons r1 (.cons r2 .nil), h1 => exact ⟨_, _, rfl, h1 _ Z1 H1 ((I1.setVal r1).setVal r2) z1⟩
theorem runI_obj {n c nf : Nat} {g : Sf} (ds : List D) (d : D) (s : S) (h : runI n c nf g ds = .ok d s) : ∃ fs, d = .obj c fs ∧ fs.length = nf := by
  unfold runI resI at h
  cases eg : g (en0 n (.ob c [] :: ds.map .val)) none with
  | nx ρ s' =>
    rw [eg] at h
    cases e0 : (ρ[0]? : Option Sl) with
    | none => simp only [e0] at h; cases h
    | some y =>
      cases y with
      | ob c' fs =>
        simp only [e0] at h
        cases hc : (decide (c' = c) && decide (fs.length = nf)) with
        | false => rw [hc] at h; cases h
        | true =>
          rw [hc] at h
          cases h
          exact ⟨fs, rfl, of_decide_eq_true (Bool.and_eq_true_iff.mp hc).2⟩
      | _ => simp only [e0] at h; cases h
  | _ => rw [eg] at h; cases h
end
end Vv
namespace Vv
theorem pss_any {B : Tb} {X : Cx} {W : WX} {ss : List Stmt} {g : Sf} (h : VSs B none X W ss g) : PSs X ss (fun D' σ H => ∃ G : Gf, (G.B = B ∧ G.ux = none) ∧ tVS G W g D' σ H) :=
  ⟨fun pins s σ H D' I ⟨G, hG, q⟩ => (h G hG).run pins s σ H D' I q⟩
theorem law_go {B : Tb} {W : WX} {Z H : Hp} {p l : Addr} {st : HS} {n : Nat} {g : Sf} {D' : Ends} {σ : L2.St} {s' : S} (hn : 2 ≤ n) (hl : σ.length = n) (h1 : σ[1]? = some (some (.ref p))) (hA : HandAt H p l st) (z : Same Z H) (zp : Z p = none) (zl : Z l = none)
    (h : resH (g (en0 n [.no, .hand]) (some st)) = .ok (.bl true) s') (q : ∀ H', D'.rt (.bl true) H') : ∃ G : Gf, (G.B = B ∧ G.ux = none) ∧ tVS G W g D' σ H := by
  refine ⟨⟨B, Z, H, some (p, l), none, [], none, []⟩, ⟨rfl, rfl⟩, Z, en0 n [.no, .hand], some st, ?_, ?_⟩
  · have at_ : ∀ {i : Nat} {x : Sl}, (en0 n [.no, .hand])[i]? = some x → x = .no ∨ (i = 1 ∧ x = .hand) := fun {i x} e => by
      rcases en0_at e with q | rfl
      · match i, q with
        | 0, q => cases q; exact .inl rfl
        | 1, q => cases q; exact .inr ⟨rfl, rfl⟩
      · exact .inl rfl
    refine ⟨?_, z, Same.refl Z, fun p o e => .inl e, fun b o e _ _ => e, fun q e => ?_, (fun _ e => nomatch e), (fun _ e => nomatch e), fun i x e => ?_, fun i j p _ oi => ?_⟩
    · unfold en0
      simp only [List.length_append, List.length_replicate, List.length_cons, List.length_nil]
      omega
    · cases e; exact ⟨st, rfl, hA, zp, zl, fun _ e => nomatch e⟩
    · rcases at_ e with rfl | ⟨rfl, rfl⟩
      · trivial
      · exact ⟨(p, l), rfl, h1⟩
    · exfalso
      unfold OwnAt at oi
      cases q : (en0 n [.no, .hand])[i]? with
      | none => rw [q] at oi; exact oi
      | some y =>
        rw [q] at oi
        rcases at_ q with rfl | ⟨_, rfl⟩ <;> exact oi
  · unfold resH at h
    cases eg : g (en0 n [.no, .hand]) (some st) with
    | rt d s2 =>
      rw [eg] at h
      cases h
      intro v σ' ρ Z' H' I z1 rv
      cases rv
      exact q H'
    | nx ρ' s2 => rw [eg] at h; cases h
    | exc c fs ρ' s2 => rw [eg] at h; cases h
    | bk ρ' s2 => rw [eg] at h; cases h
    | ct ρ' s2 => rw [eg] at h; cases h
    | bad => rw [eg] at h; cases h
end Vv
namespace Vv
section
variable {B : Tb} {u : Option (Addr × Value × Option Addr)} {X : Cx} {W : WX} {pos : Pos} {e a b c : Expr} {fa fb fc : Ef}
theorem ve_chain {op op' : CmpOp} {r r' : R2} {g g' : D → D → Option D} (ho : OpR X (compareOp op) r) (ho' : OpR X (compareOp op') r') (O : Op2 B r g) (O' : Op2 B r' g') (ha : VE B u X W a fa) (hb : VE B u X W b fb) (hc : VE B u X W c fc)
    (hm : lastMarks [op, op'] [b, c] = false := by with_unfolding_all rfl) : VE B u X W (.Compare a [op, op'] [b, c] pos) (eChain g g' fa fb fc) := by
  intro G hG
  obtain ⟨rfl, rfl⟩ := hG
  exact pe_mono (pe_chain ho ho' (ha G ⟨rfl, rfl⟩) (hb G ⟨rfl, rfl⟩) (hc G ⟨rfl, rfl⟩) hm) fun _ _ _ h => chain_of O O' h
theorem vt_chain {op op' : CmpOp} {r r' : R2} {g g' : D → D → Option D} (ho : OpR X (compareOp op) r) (ho' : OpR X (compareOp op') r') (O : Op2 B r g) (O' : Op2 B r' g') (ha : VE B u X W a fa) (hb : VE B u X W b fb) (hc : VE B u X W c fc)
    (hm : lastMarks [op, op'] [b, c] = false := by with_unfolding_all rfl) : VT B u X W (.Compare a [op, op'] [b, c] pos) (tB2 (eChain g g' fa fb fc)) := by
  intro G hG
  obtain ⟨rfl, rfl⟩ := hG
  refine pt_mono (pt_chain ho ho' (ha G ⟨rfl, rfl⟩) (hb G ⟨rfl, rfl⟩) (hc G ⟨rfl, rfl⟩) hm) fun σ H Q ⟨Z, ρ, s, I, h⟩ => ?_
  refine chain_of (Q := fun x H' => ∃ k, x = .bl k ∧ Q k H') O O' ⟨Z, ρ, s, I, h.bind.up (Same.refl Z) fun x s1 h1 v Z1 H1 I1 z1 rv => ?_⟩
  obtain ⟨k, e, q⟩ := h1.opt
  exact ⟨k, (blD_of rv e).1, q Z1 H1 I1 z1⟩
theorem gtT_ok {K : PySem.W.Frag} {n : Nat} {is : List Nat} {g : TGs} {gt : List D → En → Option En} (hK : K = B.K) (o : VGsok B is g gt) : VGok B is (gTup K n g) (gtT n gt) := fun G Z H σ ρ s v d ρ' Q hB I r e k => by
  subst hK
  cases d with
  | tup ds =>
    obtain ⟨a, vs, rfl, ht, rs⟩ := rp_tup r
    by_cases hl : ds.length = n
    · rw [show gtT n gt (.tup ds) ρ = if ds.length = n then gt ds ρ else none from rfl, if_pos hl] at e
      exact ⟨a, vs, rfl, seqT_mono I.zh ht, rs.len.trans hl, o G Z H σ ρ s vs ds ρ' Q hB I rs e k⟩
    · rw [show gtT n gt (.tup ds) ρ = if ds.length = n then gt ds ρ else none from rfl, if_neg hl] at e
      cases e
  | _ => cases e
def chars (s : String) : List Nat := s.toList.map Char.toNat
def strI : D → Option D
  | .int i => if decide (i.natAbs < 18446744073709551616) then some (.str (chars (toString i))) else none
  | _ => none
end
section
variable {P : Program} {w : World} {K : PySem.W.Frag} {mg : Str → Option Value} {base : Heap}
variable {x qual : Str} {st : Stmt} {f : Addr} {fd : FuncData} {N ps : List Str} {k n : Nat} {B : Tb} {g : Sf}
theorem fnIV (F : FunV K x qual st f fd) (Sc : FnScope N ps (defScope st)) (m c : Nat) (hm : ps.length = m + 1 := by rfl) (hn : N.length = n := by rfl) (hmn : m + 1 ≤ n := by decide)
    (hb : ∀ (cdv : Value) (A : Around) (outer : List Env) (s : Shared) (H : Hp) (E : XK), Room k (A.deeper (envOfC qual (defScope st) s.heap.objs.size f cdv)) →
      VSs B none (cxOf (L2.CX P w) P w K mg base N qual (defScope st) f cdv A outer s H E) (fun cls d _ H => E cls d H) (defBody st) g) :
    FnOk P w K mg base (L2.CX P w) (k + 1) f fd ps (spI B m c (runI n c (B.fld c).length g)) := by
  refine F.okX Sc (fun vs H Q E ⟨Z, ds, a, l, ws, ev, z, hl, r, _⟩ => by rw [ev, List.length_cons, r.len, hl, hm]) fun cdv A outer s H vs Q E hr h => ?_
  obtain ⟨Z, ds, a, dx, ws, rfl, z, hl, r, ea, za, h⟩ := h
  let G : Gf := ⟨B, Z, H, none, some a, [], none, []⟩
  refine ⟨_, hb cdv A outer s H E hr G ⟨rfl, rfl⟩, Z, en0 n (.ob c [] :: ds.map .val), none, ?_, ?_⟩
  · have at_ : ∀ {i : Nat} {x : Sl}, (en0 n (.ob c [] :: ds.map Sl.val))[i]? = some x → x = .no ∨ (i = 0 ∧ x = .ob c []) ∨ ∃ d v, x = .val d ∧ (V.ref a :: ws)[i]? = some v ∧ Rp B Z v d := fun {i x} e => by
      rcases en0_at e with q | rfl
      · cases i with
        | zero => cases q; exact .inr (.inl ⟨rfl, rfl⟩)
        | succ i =>
          rw [List.getElem?_cons_succ, List.getElem?_map] at q
          obtain ⟨d, e1, rfl⟩ := Option.map_eq_some_iff.mp q
          obtain ⟨v, e2, rv⟩ := r.at e1
          exact .inr (.inr ⟨d, v, rfl, e2, rv⟩)
      · exact .inl rfl
    refine ⟨?_, z, Same.refl Z, fun p o e => .inl e, fun b o e _ _ => e, (fun _ e => nomatch e), fun x hx => ?_, (fun _ e => nomatch e), fun i x e => ?_, fun i j p nij oi oj => ?_⟩
    · have hv := r.len
      unfold en0 L2.start
      simp only [List.length_append, List.length_replicate, List.length_map, List.length_cons]
      omega
    · cases hx; rw [ea]; exact fun z => nomatch z
    · rcases at_ e with rfl | ⟨rfl, rfl⟩ | ⟨d, v, rfl, e2, rv⟩
      · trivial
      · exact ⟨a, dx, [], start_at (v := V.ref a) rfl, rfl, by rw [List.zip_nil_right]; exact ea, ⟨za, (fun _ e => nomatch e), (fun _ e => nomatch e)⟩, .nil⟩
      · exact ⟨v, start_at e2, rv⟩
    · exfalso
      have zero : ∀ i, OwnAt (en0 n (.ob c [] :: ds.map Sl.val)) i → i = 0 := fun i oi => by
        unfold OwnAt at oi
        cases q : (en0 n (.ob c [] :: ds.map Sl.val))[i]? with
        | none => rw [q] at oi; exact oi.elim
        | some y =>
          rw [q] at oi
          rcases at_ q with rfl | ⟨e, rfl⟩ | ⟨d, v, rfl, _⟩
          · exact oi.elim
          · exact e
          · exact oi.elim
      exact nij ((zero i oi).trans (zero j oj).symm)
  · have stp : ∀ {σ ρ s' Z' H'}, VI G Z' H' σ ρ s' → Same Z Z' → StepH a Z H Z' H' := fun {σ ρ s' Z' H'} I z1 =>
      ⟨fun b o n e => I.keep b o e (fun _ e => nomatch e) (fun x hx => by cases hx; exact n), z1, I.zh, I.zn⟩
    unfold runI at h
    cases eg : g (en0 n (.ob c [] :: ds.map .val)) none with
    | nx ρ' s' =>
      rw [eg] at h
      intro σ Z' H' I z1
      unfold resI at h
      cases e0 : ρ'[0]? with
      | none => simp only [e0] at h
      | some y =>
        cases y with
        | ob c' fs =>
          simp only [e0] at h
          cases hc : (decide (c' = c) && decide (fs.length = (B.fld c).length)) with
          | false => rw [hc] at h; exact h.elim
          | true =>
            rw [hc] at h
            obtain ⟨h1, h2⟩ := Bool.and_eq_true_iff.mp hc
            obtain rfl := of_decide_eq_true h1
            have h2 := of_decide_eq_true h2
            obtain ⟨x, dx', vs, ex, hx, hH, hf, rs⟩ := I.sl 0 _ e0
            cases hx
            exact h Z' H' fs vs dx' rfl (stp I z1) hf.z hH (by rw [rs.len, h2]) rs
        | _ => simp only [e0] at h
    | rt d s' => rw [eg] at h; exact h.elim
    | exc c fs ρ' s' => rw [eg] at h; exact fun σ d vs Z' H' I z1 e l rs => h d vs Z' H' (stp I z1) e l rs
    | bk ρ' s' => rw [eg] at h; exact h.elim
    | ct ρ' s' => rw [eg] at h; exact h.elim
    | bad => rw [eg] at h; exact h.elim
end
end Vv
namespace Vv
theorem foldl_repN (l : List Nat) : ∀ (k : Nat) (acc : List Nat), List.foldl (fun x1 x2 => x1 ++ x2) acc.toArray (List.replicate k l.toArray) = (acc ++ (List.replicate k l).flatten).toArray
  | 0, acc => by simp
  | k + 1, acc => by
    have e : acc.toArray ++ l.toArray = (acc ++ l).toArray := by simp
    have e2 : (acc ++ l) ++ (List.replicate k l).flatten = acc ++ (List.replicate (k + 1) l).flatten := by
      rw [List.replicate_succ, List.flatten_cons, List.append_assoc]
    rw [← e2, ← foldl_repN l k (acc ++ l), ← e, List.replicate_succ, List.foldl_cons]
theorem flat_len (l : List Nat) : ∀ k : Nat, (List.replicate k l).flatten.length = k * l.length
  | 0 => by simp
  | k + 1 => by rw [List.replicate_succ, List.flatten_cons, List.length_append, flat_len l k, Nat.add_mul, Nat.one_mul, Nat.add_comm]
section
variable {X : Cx} {B : Tb}
def rRepS2 : R2 := fun x y H Q => ∃ (l : List Nat) (k : Int), x = .str (sOf l) ∧ y = .int k ∧ -1000 ≤ k ∧ k ≤ 1000 ∧ l.length ≤ 1000 ∧ Q (.str (sOf (List.replicate k.toNat l).flatten)) H
theorem op_repS2 : OpR X (binaryOp .Mult) rRepS2 := by
  intro pins s σ H x y v u Q I rx ry h
  obtain ⟨l, k, rfl, rfl, h1, h2, hl, q⟩ := h
  obtain ⟨t, rfl⟩ := rx
  obtain ⟨t2, rfl⟩ := ry
  have hlen : (sOf l).length = l.length := by show l.toArray.size = _; simp
  have big : l.length * k.toNat ≤ 1000000 := Nat.le_trans (Nat.mul_le_mul hl (show k.toNat ≤ 1000 by omega)) (by decide)
  have e0 : ⟨(List.replicate k.toNat (sOf l).cps).foldl (· ++ ·) #[]⟩ = sOf (List.replicate k.toNat l).flatten := by
    have := foldl_repN l k.toNat []
    rw [List.nil_append] at this
    exact congrArg Str.mk this
  refine PySem.P.mul_str (by rw [decide_eq_false (by omega), decide_eq_false (by omega)]; rfl) (fun a b => ?_) (fun a b => ?_) ?_
  · rw [hlen]
    have hk : 0 < k := by omega
    intro hgt
    have : (1000 : Int) ≤ (2 ^ 63 - 1) / k := by
      refine (Int.le_ediv_iff_mul_le hk).mpr ?_
      omega
    omega
  · rw [hlen]
    exact PyProof.Rows.short24 (by omega)
  · by_cases c1 : k < 1
    · rw [if_pos c1]
      refine ⟨by decide, .str _, H, I.tok _, ⟨_, rfl⟩, ?_⟩
      rw [show k.toNat = 0 by omega] at q
      exact q
    · rw [if_neg c1]
      by_cases c2 : (k == 1 || (sOf l).length == 0) = true
      · rw [if_pos c2]
        have e1 : (List.replicate k.toNat l).flatten = l := by
          rcases Bool.or_eq_true_iff.mp c2 with c | c
          · have : k = 1 := by simpa using c
            subst this
            simp
          · have : l.length = 0 := by rw [← hlen]; simpa using c
            have : l = [] := List.length_eq_zero_iff.mp this
            subst this
            simp
        rw [e1] at q
        exact ⟨.str _, H, I, ⟨_, rfl⟩, q⟩
      · rw [if_neg c2, e0]
        refine ⟨?_, .str _, H, I.tok _, ⟨_, rfl⟩, q⟩
        show (List.replicate k.toNat l).flatten.toArray.size ≤ sizeLine
        rw [List.size_toArray, flat_len, Nat.mul_comm, sizeLine_eq]
        omega
def vRepS : D → D → Option D
  | .str l, .int k => if decide (-1000 ≤ k) && (decide (k ≤ 1000) && decide (l.length ≤ 1000)) then some (.str (List.replicate k.toNat l).flatten) else none
  | _, _ => none
theorem Op2.repS : Op2 B rRepS2 vRepS := ⟨fun {Z H x y dx dy d Q} z rx ry e q => by
  cases rx with
  | str l =>
    cases ry with
    | int k =>
      obtain ⟨h, rfl⟩ := ite_some e
      simp only [Bool.and_eq_true, decide_eq_true_eq] at h
      exact ⟨l, k, rfl, rfl, h.1, h.2.1, h.2.2, q _ Z H (Step.refl z) (.str _)⟩
    | _ => cases e
  | _ => cases e⟩
end
end Vv
namespace Vv
def insL {α : Type} (le : α → α → Bool) (x : α) : List α → List α
  | [] => [x]
  | y :: r => if le x y then x :: y :: r else y :: insL le x r
def isort {α : Type} (le : α → α → Bool) : List α → List α
  | [] => []
  | x :: r => insL le x (isort le r)
section
variable {α : Type} {le : α → α → Bool}
theorem insL_perm (x : α) : ∀ l : List α, (insL le x l).Perm (x :: l)
  | [] => List.Perm.refl _
  | y :: r => by
    unfold insL
    split
    · exact List.Perm.refl _
    · exact ((insL_perm x r).cons y).trans (List.Perm.swap x y r)
theorem isort_perm : ∀ l : List α, (isort le l).Perm l
  | [] => List.Perm.refl _
  | x :: r => (insL_perm x (isort le r)).trans ((isort_perm r).cons x)
theorem insL_srt (tr : ∀ a b c : α, le a b = true → le b c = true → le a c = true) (to : ∀ a b : α, le a b = true ∨ le b a = true) (x : α) : ∀ l : List α, l.Pairwise (fun a b => le a b = true) → (insL le x l).Pairwise (fun a b => le a b = true)
  | [], _ => by unfold insL; exact List.pairwise_singleton _ _
  | y :: r, h => by
    have h2 := List.pairwise_cons.mp h
    unfold insL
    split
    · rename_i e
      refine List.pairwise_cons.mpr ⟨fun z hz => ?_, h⟩
      rcases List.mem_cons.mp hz with q | q
      · rw [q]; exact e
      · exact tr _ _ _ e (h2.1 z q)
    · rename_i e
      refine List.pairwise_cons.mpr ⟨fun z hz => ?_, insL_srt tr to x r h2.2⟩
      rcases List.mem_cons.mp ((insL_perm x r).mem_iff.mp hz) with q | q
      · rw [q]; exact (to x y).resolve_left e
      · exact h2.1 z q
theorem isort_srt (tr : ∀ a b c : α, le a b = true → le b c = true → le a c = true) (to : ∀ a b : α, le a b = true ∨ le b a = true) : ∀ l : List α, (isort le l).Pairwise (fun a b => le a b = true)
  | [] => List.Pairwise.nil
  | x :: r => insL_srt tr to x _ (isort_srt tr to r)
/-- two sorted lists of the same things -/
theorem srt_eq (an : ∀ a b : α, le a b = true → le b a = true → a = b) {l m : List α} (hl : l.Pairwise (fun a b => le a b = true)) (hm : m.Pairwise (fun a b => le a b = true)) (p : l.Perm m) : l = m :=
  List.Perm.eq_of_pairwise (le := fun a b => le a b = true) (fun a b _ _ h1 h2 => an a b h1 h2) hl hm p
theorem isort_eq (tr : ∀ a b c : α, le a b = true → le b c = true → le a c = true) (to : ∀ a b : α, le a b = true ∨ le b a = true) (an : ∀ a b : α, le a b = true → le b a = true → a = b) (l : List α) : l.mergeSort le = isort le l :=
  srt_eq an (List.pairwise_mergeSort tr (fun a b => by rw [Bool.or_eq_true]; exact to a b) l) (isort_srt tr to l) ((List.mergeSort_perm l le).trans (isort_perm l).symm)
end
/-- the rule: a list of data -/
def rSortA (K : PySem.W.Frag) (γ : Type) (enc : γ → PyData) : List V → Hp → VK → Prop := fun vs H Q => ∃ (a : Addr) (bs : List (V × γ)), vs = [V.ref a] ∧ SqL K H a (bs.map (·.1)) ∧ (∀ b ∈ bs, Dp K H b.1 (enc b.2)) ∧ PySem.W.AllAlike (bs.map fun b => enc b.2) ∧ PySem.W.Sortable (bs.map fun b => enc b.2) ∧
  (∀ b ∈ bs, (enc b.2).depth ≤ 9) ∧ ∀ p, H p = none → Q (.ref p) (upd H p (.lst ((bs.mergeSort (PySem.W.dataLe false fun b => enc b.2)).map (·.1))))
section
variable {X : Cx}
theorem each_zip {γ : Type} {R : Value → V × γ → Prop} : ∀ {bs : List (V × γ)} {its : List Value}, Vals (bs.map (·.1)) its → (∀ b ∈ bs, ∀ u, RelV b.1 u → R u b) → PySem.W.EachIs R its bs
  | [], _, r, _ => by cases r; exact .nil
  | b :: bs, _, r, h => by
    cases r with
    | cons r1 r2 => exact .cons (h b List.mem_cons_self _ r1) (each_zip r2 fun c hc => h c (List.mem_cons_of_mem _ hc))
theorem each_vals {γ : Type} : ∀ {bs : List (V × γ)} {its : List Value}, PySem.W.EachIs (fun u b => RelV b.1 u) its bs → Vals (bs.map (·.1)) its
  | _, _, .nil => .nil
  | _, _, .cons r1 r2 => .cons r1 (each_vals r2)
theorem cr_sortG {γ : Type} {enc : γ → PyData} (hu : X.A.units + 64 < cLine) : CallR X (.builtin "sorted") (rSortA X.K γ enc) := by
  intro pins s σ H vs us Q I r h
  obtain ⟨a, bs, rfl, hs, hd, hal, hsb, hdp, q⟩ := h
  obtain ⟨its, rv, hl, hz⟩ := I.list hs
  obtain rfl := Vals.ref1 r
  have hb : bs.length ≤ sizeLine := by rw [List.length_map] at hz; exact hz
  refine PySem.W.sorted_data (R := fun u b => RelV b.1 u) (enc := fun b : V × γ => enc b.2) hl.isList (each_zip rv fun _ _ _ r => r) (each_zip rv fun b hb u ru => Dp.reads I (enc b.2) b.1 u (hd b hb) ru) hal hsb hb (fun b hb => ?_) fun out ho eo => ?_
  · have := hdp b hb
    omega
  · obtain ⟨ep, he'⟩ := PyProof.Rows.sortedAll_at s.heap its out.toArray
    have hlen : ((bs.mergeSort (PySem.W.dataLe false fun b => enc b.2)).map (·.1)).length ≤ sizeLine := by
      rw [List.length_map, List.length_mergeSort]
      exact hb
    exact ⟨.ref _, upd H (s.heap.objs.size + 1) (.lst ((bs.mergeSort (PySem.W.dataLe false fun b => enc b.2)).map (·.1))), I.laid (t' := s.toks) (fun _ _ => PyProof.Rows.sortedAll_old) (Nat.le_succ _) ⟨hlen, out, ep, each_vals eo, he'⟩, rfl, q _ (I.hok.fresh (Nat.le_succ _))⟩
end
abbrev eI : Int → PyData := fun i => .int i
abbrev eP : Int × Int → PyData := fun p => .tuple [.int p.1, .int p.2]
abbrev eS : List Nat → PyData := fun l => .str (sOf l)
def leI (a b : Int) : Bool := decide (a ≤ b)
def leP (a b : Int × Int) : Bool := decide (a.1 < b.1 ∨ (a.1 = b.1 ∧ a.2 ≤ b.2))
def leS (a b : List Nat) : Bool := decide (a ≤ b)
def dPair : D → Option (Int × Int)
  | .tup [.int i, .int j] => some (i, j)
  | _ => none
def dOne : D → Option Int
  | .int i => some i
  | _ => none
def dTxt : D → Option (List Nat)
  | .str l => some l
  | _ => none
def allD2 {γ : Type} (f : D → Option γ) : List D → Option (List γ)
  | [] => some []
  | d :: r => (f d).bind fun x => (allD2 f r).map fun xs => x :: xs
def srt {γ : Type} (f : D → Option γ) (le : γ → γ → Bool) (g : γ → D) (ds : List D) : Option D := (allD2 f ds).map fun xs => .lst ((isort le xs).map g)
def sortD : D → Option D
  | .lst ds => if fit ds.length then ((srt dOne leI .int ds).or (srt dPair leP (fun p => .tup [.int p.1, .int p.2]) ds)).or (srt dTxt leS .str ds) else none
  | _ => none
def rSortD (K : PySem.W.Frag) : List V → Hp → VK → Prop := fun vs H Q => (rSortA K Int eI vs H Q ∨ rSortA K (Int × Int) eP vs H Q) ∨ rSortA K (List Nat) eS vs H Q
theorem cr_sortD {X : Cx} {B : Tb} (hK : X.K = B.K) (hu : X.A.units + 64 < cLine) : CallR X (.builtin "sorted") (rSortD B.K) := by
  rw [← hK]
  exact CallR.or (CallR.or (cr_sortG hu) (cr_sortG hu)) (cr_sortG hu)
section
variable {B : Tb}
theorem srt_of {γ : Type} {f : D → Option γ} {le : γ → γ → Bool} {g : γ → D} {enc : γ → PyData} (hle : (PySem.W.dataLe false fun b : V × γ => enc b.2) = fun a b => le a.2 b.2) (tr : ∀ a b c : γ, le a b = true → le b c = true → le a c = true) (to : ∀ a b : γ, le a b = true ∨ le b a = true) (an : ∀ a b : γ, le a b = true → le b a = true → a = b)
    (hal : ∀ bs : List (V × γ), PySem.W.AllAlike (bs.map fun b => enc b.2)) (hsb : ∀ bs : List (V × γ), PySem.W.Sortable (bs.map fun b => enc b.2)) (hdp : ∀ x, (enc x).depth ≤ 9) (hf : ∀ d x, f d = some x → d = g x) (hd : ∀ Z v x, Rp B Z v (g x) → Dp B.K Z v (enc x))
    {Z H : Hp} {a : Addr} {vs : List V} {ds : List D} {d : D} {Q : VK} (z : Same Z H) (ha : Z a = some (.lst vs)) (r : Rps B Z vs ds) (e : srt f le g ds = some d) (q : ∀ v Z' H', Step Z H Z' H' → Rp B Z' v d → Q v H') : rSortA B.K γ enc [.ref a] H Q := by
  obtain ⟨xs, e1, rfl⟩ := Option.map_eq_some_iff.mp e
  obtain ⟨bs, b1, b2, b3⟩ : ∃ bs : List (V × γ), bs.map (·.1) = vs ∧ bs.map (·.2) = xs ∧ ∀ b ∈ bs, Rp B Z b.1 (g b.2) := by
    clear q e ha
    induction vs generalizing ds xs with
    | nil => cases r; cases e1; exact ⟨[], rfl, rfl, fun _ h => nomatch h⟩
    | cons v vs ih =>
      cases r with
      | @cons _ d0 _ ds0 h r =>
        obtain ⟨x, ex, e2⟩ := Option.bind_eq_some_iff.mp (show (f d0).bind (fun x => (allD2 f ds0).map fun xs => x :: xs) = some xs from e1)
        obtain ⟨ys, ey, rfl⟩ := Option.map_eq_some_iff.mp e2
        obtain ⟨bs, c1, c2, c3⟩ := ih r _ ey
        refine ⟨(v, x) :: bs, by rw [List.map_cons, c1], by rw [List.map_cons, c2], fun b hb => ?_⟩
        rcases List.mem_cons.mp hb with h1 | h1
        · rw [h1, ← hf d0 x ex]; exact h
        · exact c3 b h1
  refine ⟨a, bs, rfl, by rw [b1]; exact .inl (.inl (z _ _ ha)), fun b hb => ?_, hal bs, hsb bs, fun b _ => hdp b.2, fun p hp => ?_⟩
  · exact dp_up z _ _ (hd Z b.1 b.2 (b3 b hb))
  · have t := Step.new (.lst ((bs.mergeSort (PySem.W.dataLe false fun b => enc b.2)).map (·.1))) z hp
    refine q _ _ _ t (.lst upd_same ?_)
    have hm : (bs.mergeSort (PySem.W.dataLe false fun b : V × γ => enc b.2)).map (·.2) = isort le xs := by
      rw [hle, List.map_mergeSort (s := le) (f := fun b : V × γ => b.2) (fun _ _ _ _ => rfl), b2, isort_eq tr to an]
    rw [← hm, List.map_map]
    have : ∀ cs : List (V × γ), (∀ b ∈ cs, Rp B Z b.1 (g b.2)) → Rps B (upd Z p (.lst ((bs.mergeSort (PySem.W.dataLe false fun b => enc b.2)).map (·.1)))) (cs.map (·.1)) (cs.map (g ∘ fun b => b.2)) := fun cs => by
      induction cs with
      | nil => exact fun _ => .nil
      | cons c cs ih => exact fun h => .cons ((h c List.mem_cons_self).mono t.zz) (ih fun b hb => h b (List.mem_cons_of_mem _ hb))
    exact this _ fun b hb => b3 b ((List.mergeSort_perm bs _).mem_iff.mp hb)
theorem ite_some' {α : Type} {c : Bool} {x : Option α} {y : α} (h : (if c then x else none) = some y) : c = true ∧ x = some y := by
  cases c with
  | true => exact ⟨rfl, h⟩
  | false => cases h
theorem OpN.sort : OpN B (rSortD B.K) (g1 sortD) := OpN.one g1_of fun {Z H x dx d Q} z rx e q => by
  cases rx with
  | @lst a vs ds h r =>
    obtain ⟨hf, e⟩ := ite_some' e
    rcases Option.or_eq_some_iff.mp e with e | ⟨_, e⟩
    · rcases Option.or_eq_some_iff.mp e with e | ⟨_, e⟩
      · refine .inl (.inl (srt_of (g := .int) (PySem.W.dataLe_int fun b : V × Int => b.2) (fun a b c h1 h2 => ?_) (fun a b => ?_) (fun a b h1 h2 => ?_) (fun bs => PySem.W.AllAlike.of fun _ _ => rfl) (fun bs => PySem.W.Sortable.others fun _ => ⟨(by intro h; cases h), (by intro _ h; cases h)⟩) (fun _ => Nat.zero_le _) (fun d x h => ?_) (fun Z v x r => ?_) z h r e q))
        · exact decide_eq_true (Int.le_trans (of_decide_eq_true h1) (of_decide_eq_true h2))
        · exact (Int.le_total a b).imp decide_eq_true decide_eq_true
        · exact Int.le_antisymm (of_decide_eq_true h1) (of_decide_eq_true h2)
        · cases d <;> cases h; rfl
        · cases r; exact .int _
      · refine .inl (.inr (srt_of (g := fun p => .tup [.int p.1, .int p.2]) (PySem.W.dataLe_ii (fun b : V × Int × Int => b.2.1) fun b => b.2.2) (fun a b c h1 h2 => ?_) (fun a b => ?_) (fun a b h1 h2 => ?_) (fun bs => PySem.W.AllAlike.of fun _ _ => by simp [PySem.W.alike, PySem.W.alikeAll]) (fun bs => PySem.W.Sortable.tuples fun _ => ⟨_, _, rfl⟩) (fun _ => by simp [PyData.depth, PyData.depthAll]) (fun d x h => ?_) (fun Z v x r => ?_) z h r e q))
        · have h1 := of_decide_eq_true h1
          have h2 := of_decide_eq_true h2
          exact decide_eq_true (by omega)
        · unfold leP
          simp only [decide_eq_true_eq]
          omega
        · have h1 := of_decide_eq_true h1
          have h2 := of_decide_eq_true h2
          exact Prod.ext (by omega) (by omega)
        · unfold dPair at h
          split at h
          · cases h; rfl
          · cases h
        · obtain ⟨a, vs, rfl, ht, rs⟩ := rp_tup r
          cases rs with
          | cons r1 r2 =>
            cases r2 with
            | cons r2 r3 =>
              cases r3
              cases r1
              cases r2
              exact .tup ht (.cons (.int _) (.cons (.int _) .nil))
    · refine .inr (srt_of (g := .str) ((PySem.W.dataLe_str fun b : V × List Nat => sOf b.2).trans (by funext a b; simp only [sOf, List.toList_toArray]; rfl)) (fun a b c h1 h2 => ?_) (fun a b => ?_) (fun a b h1 h2 => ?_) (fun bs => PySem.W.AllAlike.of fun _ _ => rfl) (fun bs => PySem.W.Sortable.others fun _ => ⟨(by intro h; cases h), (by intro _ h; cases h)⟩) (fun _ => Nat.zero_le _) (fun d x h => ?_) (fun Z v x r => ?_) z h r e q)
      · exact decide_eq_true (List.le_trans (of_decide_eq_true h1) (of_decide_eq_true h2))
      · exact (List.le_total a b).imp decide_eq_true decide_eq_true
      · exact List.le_antisymm (of_decide_eq_true h1) (of_decide_eq_true h2)
      · cases d <;> cases h; rfl
      · cases r; exact .str _
  | _ => cases e
end
end Vv
namespace Vv
/-- a clause: what it catches, its name's slot, its suite -/
abbrev Cl := Value × Nat × (Addr → Value → Option Addr → TS)
def wMs (K : PySem.W.Frag) (Wo : WX) (D' : Ends) : List Cl → WX
  | [] => Wo
  | c :: r => wAs K c.1 c.2.1 c.2.2 (wMs K Wo D' r) D'
inductive Hs (X : Cx) : List ExceptHandler → List Cl → Prop
  | nil : Hs X [] []
  | as {x n : Str} {c : Value} {i : Nat} {ts : Addr → Value → Option Addr → TS} {b0 : Stmt} {su : List Stmt} {np ps : Pos} {hs : List ExceptHandler} {l : List Cl} (nm : Names X x c) (hi : X.N[i]? = some n) (lc : X.env.kindOf n = some .local)
      (sk : ∀ (a : Addr) (oe : Obj) (cls : Value) (d : Option Addr) (pn : List (Addr × Obj)), Zc cls d oe → (∃ vs, oe.data = .fields vs) → PSs (X.suite a ((a, oe) :: pn)) (b0 :: su) (ts a cls d)) (r : Hs X hs l) :
      Hs X (.ExceptHandler (some (.Name x np)) (some n) (b0 :: su) ps :: hs) ((c, i, ts) :: l)
section
variable {X : Cx} {body : List Stmt} {h0 : ExceptHandler} {hs : List ExceptHandler} {l : List Cl} {pos : Pos} {tb : WX → TS} {Wo : WX}
theorem ps_try_ms (st : X.stack = X.env :: X.outer) (fr : X.env.frame = some X.env.locals) (nd : X.N.Nodup) (tk : Takes X Wo)
    (hb : ∀ (W : WX) (pn : List (Addr × Obj)) (xe : Value → Shared → Prop), Takes (X.tr pn xe) W → PassesOwn (model X.prog X.w) X.A X.env xe → PSs (X.tr pn xe) body (tb W))
    (hh : Hs X (h0 :: hs) l) : PS X (.Try body (h0 :: hs) [] [] pos) (fun D' σ H => tb (wMs X.K Wo D' l) D' σ H) := by
  refine ⟨fun pins s σ H D' I h => ?_⟩
  have ok := I.ok
  have frames : X.A.frames = some (X.env :: X.outer) := ok.frames.trans (congrArg some st)
  refine wpAny_Try_except (wpAny_mono ((hb (wMs X.K Wo D' l) (X.pn ++ pins) (fun e s₁ => wpAny (model X.prog X.w) X.A (noteFrame e X.env) (fun _ s₂ => wpAny (model X.prog X.w) X.A (setFlight e none) (fun _ s₃ =>
    wpAny (model X.prog X.w) X.A (handleBy e X.env (h0 :: hs)) (SP X pins D') X.xe s₃) X.xe s₂) X.xe s₁) (fun u s' xx => ?_) PassesOwn.looking).run [] s σ H D' (I.toTry _) h) (fun f s1 q => ?_) fun e s1 q => q)
  rotate_left
  · cases f with
    | next => obtain ⟨σ1, H1, J, q⟩ := q; exact wpAny_execs_nil ⟨σ1, H1, J.ofTry ok, q⟩
    | brk => obtain ⟨σ1, H1, J, q⟩ := q; exact ⟨σ1, H1, J.ofTry ok, q⟩
    | cont => obtain ⟨σ1, H1, J, q⟩ := q; exact ⟨σ1, H1, J.ofTry ok, q⟩
    | ret u => obtain ⟨v, σ1, H1, J, r, q⟩ := q; exact ⟨v, σ1, H1, J.ofTry ok, r, q⟩
  obtain ⟨a, B, sI, p1, σ1, H1, cls, d, rfl, J0, nb, up, sky, na, os, ag, w⟩ := xx
  have J : Inv X pins σ1 H1 sI := J0.ofTry ok
  show wpAny (model X.prog X.w) X.A (noteFrame (.ref a) X.env) _ _ _
  refine Sky.land Zc.steady frames fr (st ▸ sky) fun h3 fl up3 => ?_
  have J3 : Inv X pins σ1 H1 { s' with heap := h3 } := J.landed nb fl.1 (up.trans up3) os ag
  obtain ⟨oe, vs, he, hz, hd⟩ := fl.there
  have out : a ∉ frs (X.env :: X.outer) := fun hm => by
    obtain ⟨_, o, e, nf⟩ := fl.2.2.1.mem hm
    rw [he] at e
    cases e
    exact nf _ hd
  have nL : a ≠ X.env.locals := fun z => out (List.mem_filterMap.mpr ⟨X.env, List.mem_cons_self, by rw [fr, z]⟩)
  have nF : a ∉ X.fs := fun hm => by
    obtain ⟨e, h1, q⟩ := List.mem_filterMap.mp hm
    exact out (List.mem_filterMap.mpr ⟨e, List.mem_cons_of_mem _ h1, q⟩)
  have S3 := J3.suite he hd na nL nF
  suffices go : ∀ {hs' : List ExceptHandler} {l' : List Cl}, Hs X hs' l' → wMs X.K Wo D' l' cls d σ1 H1 → wpAny (model X.prog X.w) X.A (handleBy (.ref a) X.env hs') (SP X pins D') X.xe { s' with heap := h3 } from go hh w
  intro hs' l' hk
  induction hk with
  | nil =>
    intro w
    refine wpAny_handleBy_nil ?_
    obtain ⟨_, _, _, oe1, vs1, T, oT, ts1, e1, _, d1, x1, _⟩ := id fl
    unfold PySem.passOn
    refine wpAny_bind (wpAny_field e1 d1 x1 ?_)
    rw [if_neg (show ¬ ((Value.ref T == Value.none) = true) from by simp)]
    have fin : wpAny (model X.prog X.w) X.A (setFlight (.ref a) X.env.frame) (fun _ s4 => wpAny (model X.prog X.w) X.A (throw (.ref a) : Sem Flow) (SP X pins D') X.xe s4) X.xe { s' with heap := h3 } := by
      rw [fr]
      exact HandSPX.setFlight_upZ fl fun h4 hh4 up4 => wpAny_throw (tk _ _ ⟨a, B, sI, pins, σ1, H1, cls, d, rfl, J, nb, (up.trans up3).trans up4, .inr (.inr (by rw [st]; exact hh4)), na, os, ag, w⟩)
    first
      | exact wpAny_bind (wpAny_pure (wpAny_bind fin))
      | exact wpAny_bind fin
  | @as x n c i ts b0 su np ps hs2 l2 nm hi lc sk r ih =>
    rintro ⟨b, eb, yes, no⟩
    refine wpAny_handleBy_cons (codeAny_handlers_test ?_) (by intro q; cases q)
    have LT : PySem.W.Looks (model X.prog X.w) h3 (typeOf (.ref a)) cls := fun A Q E s k q => wpAny_typeOf_ref (k _ _ he) (by rw [hz.1]; exact q)
    have LM := PySem.W.exm_one (M := model X.prog X.w) (J3.kIn) LT eb
    have look : ∀ {Q : Value → Shared → Prop} {E : Value → Shared → Prop}, Q c { s' with heap := h3 } → wpAny (model X.prog X.w) (X.A.mark (some (.ref a))) (eval (.Name x np) X.env) Q E { s' with heap := h3 } := fun {Q E} q => by
      obtain ⟨hg, hdb, hm | ⟨hm, hv, hn⟩⟩ := nm
      · exact ld_glob (X := X.suite a ((a, oe) :: (X.pn ++ pins))) S3 hg hm q hdb
      · exact ld_blt (X := X.suite a ((a, oe) :: (X.pn ++ pins))) S3 hg hm hv q hn hdb
    refine look (LM.here ?_)
    cases b with
    | false => exact ih (no rfl)
    | true =>
      refine codeAny_handlers_suite_as (HandSPX.lands_againZ fl fun h4 fl4 up4 => ?_)
      have J4 : Inv X pins σ1 H1 { s' with heap := h4 } := J.landed nb fl4.1 ((up.trans up3).trans up4) os ag
      obtain ⟨o4, v4, e4, z4, d4⟩ := fl4.there
      have S4 := J4.suite e4 d4 na nL nF
      refine store_ok (X := X.suite a ((a, o4) :: (X.pn ++ pins))) (v := .ref a) S4 nd hi (.inl lc) rfl (fun s5 S5 => ?_) (.inr lc)
      refine wpAny_mono ((sk a o4 cls d (X.pn ++ pins) z4 ⟨_, d4⟩).run [] s5 _ H1 _ S5 (yes rfl a na)) (fun f s6 q => ?_) fun _ _ z => False.elim z
      have clear_ : ∀ {σ6 : L2.St} {H6 : Hp} {Q : Shared → Prop}, Inv (X.suite a ((a, o4) :: (X.pn ++ pins))) [] σ6 H6 s6 → (∀ s7, Inv X pins (σ6.set i none) H6 s7 → Q s7) →
          wpAny (model X.prog X.w) X.A (do bindName X.env n .none; unbindBehindTheSuite X.env n ps) (fun _ s7 => Q s7) X.xe s6 := fun {σ6 H6 Q} S6 k => gone_ok (S6.unsuite ok) nd hi lc k
      cases f with
      | next => obtain ⟨_, _, S6, q⟩ := q; exact clear_ S6 fun _ J7 => ⟨_, _, J7, q⟩
      | brk => obtain ⟨_, _, S6, q⟩ := q; exact clear_ S6 fun _ J7 => ⟨_, _, J7, q⟩
      | cont => obtain ⟨_, _, S6, q⟩ := q; exact clear_ S6 fun _ J7 => ⟨_, _, J7, q⟩
      | ret u => obtain ⟨_, _, _, S6, r6, q⟩ := q; exact clear_ S6 fun _ J7 => ⟨_, _, _, J7, r6, q⟩
end
/-- a clause: the name's slot, what it catches, its suite -/
abbrev Cf := Nat × (Nat → Option Bool) × Sf
def handL : List Cf → Nat → List D → En → S → SR
  | [], c, fs, ρ, s => .exc c fs ρ s
  | h :: r, c, fs, ρ, s => match h.2.1 c with
    | some true => outX h.1 (h.2.2 ((ρ.map noX).set h.1 (.exc c fs)) s)
    | some false => handL r c fs ρ s
    | none => .bad
def sTryM (hs : List Cf) (gb : Sf) : Sf := fun ρ s => match gb ρ s with
  | .exc c fs ρ1 s1 => handL hs c fs ρ1 s1
  | r => r
theorem sok_outX {G : Gf} {W W' : WX} {Z : Hp} {D' : Ends} {i : Nat} {r : SR} (h : SOk G W Z D' (outX i r)) : SOk G W' Z D' (outX i r) := by
  cases r <;> exact h
/-- the clauses and the judgements of their suites -/
inductive Hv (B : Tb) (X : Cx) : List ExceptHandler → List Value → List Cf → Prop
  | nil : Hv B X [] [] []
  | as {x n : Str} {cv : Value} {i : Nat} {sub : Nat → Option Bool} {gs : Sf} {b0 : Stmt} {su : List Stmt} {np ps : Pos} {hs : List ExceptHandler} {cs : List Value} {l : List Cf} (hi : X.N[i]? = some n) (lc : X.env.kindOf n = some .local) (nm : Names X x cv) (ok : SubOk B cv sub)
      (sk : ∀ (a : Addr) (oe : Obj) (cls : Value) (d : Option Addr) (pn : List (Addr × Obj)), Zc cls d oe → (∃ vs, oe.data = .fields vs) → VSs B (some (a, cls, d)) (X.suite a ((a, oe) :: pn)) W0 (b0 :: su) gs) (r : Hv B X hs cs l) :
      Hv B X (.ExceptHandler (some (.Name x np)) (some n) (b0 :: su) ps :: hs) (cv :: cs) ((i, sub, gs) :: l)
def clsOf (B : Tb) : List Value → List Cf → List Cl
  | cv :: cs, h :: l => (cv, h.1, fun a cls d D' σ H => ∃ G' : Gf, (G'.B = B ∧ G'.ux = some (a, cls, d)) ∧ tVS G' W0 h.2.2 D' σ H) :: clsOf B cs l
  | _, _ => []
theorem Hv.hs {B : Tb} {X : Cx} {hs : List ExceptHandler} {cs : List Value} {l : List Cf} (h : Hv B X hs cs l) : Hs X hs (clsOf B cs l) := by
  induction h with
  | nil => exact .nil
  | as hi lc nm ok sk r ih => exact .as nm hi lc (fun a oe cls d pn hz hf => ⟨fun pins s σ H D' I ⟨G', hG', q⟩ => (sk a oe cls d pn hz hf G' hG').run pins s σ H D' I q⟩) ih
theorem many_of {G : Gf} {X : Cx} {W : WX} (hu : G.ux = none) {hs : List ExceptHandler} {cs : List Value} {l : List Cf} (h : Hv G.B X hs cs l) {D' : Ends} {Z : Hp} {c : Nat} {fs : List D} {ρ : En} {s : S} (k : SOk G W Z D' (handL l c fs ρ s)) :
    SOk G (wMs G.B.K W D' (clsOf G.B cs l)) Z D' (.exc c fs ρ s) := by
  induction h with
  | nil => exact k
  | @as x n cv i sub gs b0 su np ps hs cs l hi lc nm ok sk r ih =>
    refine try_of (W := wMs G.B.K W D' (clsOf G.B cs l)) (cv := cv) (i := i) (sub := sub) (gb := fun _ _ => .exc c fs ρ s) (gs := gs) (ρ := ρ) (s := s) hu ok _ (fun a cls d D' σ H q => q) ?_
    show SOk G _ Z D' (match sub c with
      | some true => outX i (gs ((ρ.map noX).set i (.exc c fs)) s)
      | some false => .exc c fs ρ s
      | none => .bad)
    have k' : SOk G W Z D' (match sub c with
      | some true => outX i (gs ((ρ.map noX).set i (.exc c fs)) s)
      | some false => handL l c fs ρ s
      | none => .bad) := k
    cases e : sub c with
    | none => rw [e] at k'; exact k'.elim
    | some b =>
      rw [e] at k'
      cases b with
      | true => exact sok_outX k'
      | false => exact ih k'
theorem vs_tryM {B : Tb} {u : Option (Addr × Value × Option Addr)} {X : Cx} {W : WX} {pos : Pos} {body : List Stmt} {h0 : ExceptHandler} {hs : List ExceptHandler} {cs : List Value} {l : List Cf} {gb : Sf} (hK : X.K = B.K) (hu : u = none) (st : X.stack = X.env :: X.outer) (fr : X.env.frame = some X.env.locals) (nd : X.N.Nodup) (tk : Takes X W)
    (hv : Hv B X (h0 :: hs) cs l)
    (hb : ∀ (W' : WX) (pn : List (Addr × Obj)) (xe : Value → Shared → Prop), Takes (X.tr pn xe) W' → PassesOwn (model X.prog X.w) X.A X.env xe → VSs B none (X.tr pn xe) W' body gb) :
    VS B u X W (.Try body (h0 :: hs) [] [] pos) (sTryM l gb) := by
  subst hu
  intro G hG
  obtain ⟨rfl, hux⟩ := hG
  refine ps_mono (ps_try_ms (tb := fun W' => tVS G W' gb) st fr nd tk (fun W' pn xe t po => hb W' pn xe t po G ⟨rfl, hux⟩) hv.hs) fun D' σ H ⟨Z, ρ, s, I, h⟩ => ?_
  rw [hK]
  refine ⟨Z, ρ, s, I, ?_⟩
  unfold sTryM at h
  cases eb : gb ρ s with
  | exc c fs ρ1 s1 => rw [eb] at h; exact many_of hux hv h
  | nx ρ' s' => rw [eb] at h; exact h
  | rt d s' => rw [eb] at h; exact h
  | bk ρ' s' => rw [eb] at h; exact h
  | ct ρ' s' => rw [eb] at h; exact h
  | bad => rw [eb] at h; exact h.elim
end Vv
theorem exm_any {K : PySem.W.Frag} {S B : Addr} {b : Bool} (h1 : PySem.W.subIn K (.ref B) (.type "BaseException") = some true) (h2 : PySem.W.isClsIn K B = true) (h3 : PySem.W.typeIn K (.ref B) = some (.type "type")) (h4 : PySem.W.subIn K (.ref S) (.ref B) = some b) : PySem.W.exmOne K (.ref S) (.ref B) = some b := by
  unfold PySem.W.exmOne
  rw [h1, cls_in h2 h3 h4]
  rfl
namespace Vv
def eIsX (i : Nat) (tab : Nat → Option Bool) : Ef := fun ρ s => match ρ[i]? with
  | some (.exc c _) => opt ((tab c).map D.bl) s
  | _ => .bad
def uOf (B : Tb) : D → Option Value
  | .ty n => some (.type n)
  | .cl k => some (.ref (B.cls k))
  | _ => none
theorem ve_isX (i : Nat) {B : Tb} {X : Cx} {W : WX} {a : Addr} {oe : Obj} {cls : Value} {d : Option Addr} {pn : List (Addr × Obj)} {tab : Nat → Option Bool} {d2 : D} {u : Value} {e1 e2 : Expr} {p pos : Pos} (hK : X.K = B.K) (hz : Zc cls d oe) (hf : ∃ vs, oe.data = .fields vs)
    (h1 : PE (X.suite a ((a, oe) :: pn)) e1 (tVar i)) (h2 : VE B (some (a, cls, d)) (X.suite a ((a, oe) :: pn)) W e2 (eC d2)) (hu : uOf B d2 = some u) (ok : ∀ c b, tab c = some b → ExcC B.K (B.cls c) ∧ PySem.W.kitOne B.K (.ref (B.cls c)) u = some b)
    (hg : Gl (X.suite a ((a, oe) :: pn)) "isinstance") (hm : X.mg "isinstance" = none) (hbt : PySem.bootBuiltins "isinstance" = some (.builtin "isinstance"))
    (he : starEach [e1, e2] (X.suite a ((a, oe) :: pn)).env = (false, eval e1 (X.suite a ((a, oe) :: pn)).env) :: starEach [e2] (X.suite a ((a, oe) :: pn)).env := by rfl) (he2 : starEach [e2] (X.suite a ((a, oe) :: pn)).env = (false, eval e2 (X.suite a ((a, oe) :: pn)).env) :: starEach [] (X.suite a ((a, oe) :: pn)).env := by rfl)
    (hpl : (backTo pos (starEach [e2] (X.suite a ((a, oe) :: pn)).env)).any (·.1) = false := by rfl) :
    VE B (some (a, cls, d)) (X.suite a ((a, oe) :: pn)) W (.Call (.Name "isinstance" p) [e1, e2] [] pos) (eIsX i tab) := by
  intro G hG
  have h20 := h2 G hG
  obtain ⟨rfl, hux⟩ := hG
  refine pe_mono (pe_callB (call_isX hK hz hf) hg hm hbt (pa_cons h1 (pa_cons h20 pa_nil he2) he) (by decide) (by decide) he hpl) fun σ H Q ⟨Z, ρ, s, I, h⟩ => ?_
  cases e0 : ρ[i]? with
  | none => simp only [eIsX, e0] at h; exact h.elim
  | some y =>
    cases y with
    | exc c fs =>
      simp only [eIsX, e0] at h
      obtain ⟨r, er, q⟩ := h.opt
      obtain ⟨b, eb, rfl⟩ := Option.map_eq_some_iff.mp er
      obtain ⟨a2, dd, vs, ea, hx2, hH, hl, rs⟩ := I.sl i _ e0
      rw [hux] at hx2
      cases hx2
      obtain ⟨k1, k2⟩ := ok c b eb
      refine ⟨_, ea, Z, ρ, s, I, fun v Z' H' I' z rv => ?_⟩
      have cv : ClsV v u := by
        cases d2 with
        | ty n => cases hu; cases rv; exact .ty n
        | cl k => cases hu; cases rv; exact .own _
        | _ => cases hu
      exact ⟨v, u, _, dd, _, b, rfl, cv, rfl, k1, rfl, I'.zh _ _ (z _ _ hH), k2, q _ Z' H' I' z (.bl b)⟩
    | _ => simp only [eIsX, e0] at h; exact h.elim
end Vv
namespace Vv
section
variable {B : Tb} {u : Option (Addr × Value × Option Addr)} {X : Cx} {W : WX} {pos : Pos} {e k : Expr} {es : List Expr} {fe fk : Ef}
theorem Rps.set {Z : Hp} {v : V} {d : D} (r1 : Rp B Z v d) : ∀ {vs : List V} {ds : List D} (j : Nat), Rps B Z vs ds → Rps B Z (vs.set j v) (ds.set j d)
  | _, _, _, .nil => .nil
  | _, _, 0, .cons _ r => .cons r1 r
  | _, _, j + 1, .cons h r => .cons h (Rps.set r1 j r)
theorem VI.hideOwn {G : Gf} {Z H : Hp} {σ : L2.St} {ρ : En} {s : S} {p : Addr} {o : HO} (I : VI G Z H σ ρ s) (e : H p = some o) (w : Own1 G Z σ ρ p) : VI (G.hide p o) Z H σ ρ s := by
  have fr : ∀ i a, OwnAt ρ i → σ[i]? = some (some (.ref a)) → G.Free Z a → (G.hide p o).Free Z a := fun i a oi ea f => ⟨f.z, f.h, fun q hq => by
    rcases List.mem_cons.mp hq with h | h
    · rw [h]
      intro c
      exact w.d i oi (by rw [ea, c])
    · exact f.d q h⟩
  refine ⟨I.len, I.zh, I.z0, I.zn, I.keep, fun q hq => ?_, I.slf, fun q hq => ?_, fun i x ei => ?_, I.dis⟩
  · obtain ⟨st, e1, hA, z1, z2, hd⟩ := I.hnd q hq
    refine ⟨st, e1, hA, z1, z2, fun c hc => ?_⟩
    rcases List.mem_cons.mp hc with h | h
    · rw [h]; exact w.f.h q hq
    · exact hd c h
  · rcases List.mem_cons.mp hq with h | h
    · rw [h]; exact ⟨e, w.f.z⟩
    · exact I.hid q h
  · have sl := I.sl i x ei
    cases x with
    | no => trivial
    | val d => exact sl
    | own ds => obtain ⟨a, ws, e2, h2, f2, n2, r2⟩ := sl; exact ⟨a, ws, e2, h2, fr i a (by unfold OwnAt; rw [ei]; trivial) e2 f2, n2, r2⟩
    | dct ks ds => obtain ⟨a, ws, e2, h2, f2, n2, r2⟩ := sl; exact ⟨a, ws, e2, h2, fr i a (by unfold OwnAt; rw [ei]; trivial) e2 f2, n2, r2⟩
    | ob c fs => obtain ⟨a, dx, ws, e2, q2, h2, f2, r2⟩ := sl; exact ⟨a, dx, ws, e2, q2, h2, fr i a (by unfold OwnAt; rw [ei]; trivial) e2 f2, r2⟩
    | hand => exact sl
    | tab rows => exact sl
    | al j k => exact sl
    | exc c fs => exact sl
theorem VI.seen {G : Gf} {Z H : Hp} {σ : L2.St} {ρ : En} {s : S} {p : Addr} {o : HO} (I : VI (G.hide p o) Z H σ ρ s) : VI G Z H σ ρ s := by
  have fr : ∀ a, (G.hide p o).Free Z a → G.Free Z a := fun a f => ⟨f.z, f.h, fun q hq => f.d q (List.mem_cons_of_mem _ hq)⟩
  refine ⟨I.len, I.zh, I.z0, I.zn, I.keep, fun q hq => ?_, I.slf, fun q hq => I.hid q (List.mem_cons_of_mem _ hq), fun i x e => ?_, I.dis⟩
  · obtain ⟨st, e1, hA, z1, z2, hd⟩ := I.hnd q hq
    exact ⟨st, e1, hA, z1, z2, fun e he => hd e (List.mem_cons_of_mem _ he)⟩
  · have sl := I.sl i x e
    cases x with
    | no => trivial
    | val d => exact sl
    | own ds => obtain ⟨a, ws, e2, h2, f2, n2, r2⟩ := sl; exact ⟨a, ws, e2, h2, fr a f2, n2, r2⟩
    | dct ks ds => obtain ⟨a, ws, e2, h2, f2, n2, r2⟩ := sl; exact ⟨a, ws, e2, h2, fr a f2, n2, r2⟩
    | ob c fs => obtain ⟨a, dx, ws, e2, q2, h2, f2, r2⟩ := sl; exact ⟨a, dx, ws, e2, q2, h2, fr a f2, r2⟩
    | hand => exact sl
    | tab rows => exact sl
    | al j k => exact sl
    | exc c fs => exact sl
theorem Own1.hidden {G : Gf} {Z H : Hp} {σ : L2.St} {ρ : En} {s : S} {p : Addr} {o : HO} (I : VI (G.hide p o) Z H σ ρ s) (w : G.H0 p = none) (hh : ∀ q, G.hand = some q → p ≠ q.1 ∧ p ≠ q.2) (hd : ∀ q ∈ G.hid, p ≠ q.1) : Own1 G Z σ ρ p :=
  ⟨⟨(I.hid (p, o) List.mem_cons_self).2, hh, hd⟩, w, fun i oi ei => by
    unfold OwnAt at oi
    cases e : ρ[i]? with
    | none => rw [e] at oi; exact oi
    | some y =>
      rw [e] at oi
      have sl := I.sl i y e
      cases y with
      | own ds => obtain ⟨a, ws, e2, h2, f2, n2, r2⟩ := sl; rw [ei] at e2; cases e2; exact f2.d (p, o) List.mem_cons_self rfl
      | dct ks ds => obtain ⟨a, ws, e2, h2, f2, n2, r2⟩ := sl; rw [ei] at e2; cases e2; exact f2.d (p, o) List.mem_cons_self rfl
      | ob c fs => obtain ⟨a, dx, ws, e2, q2, h2, f2, r2⟩ := sl; rw [ei] at e2; cases e2; exact f2.d (p, o) List.mem_cons_self rfl
      | _ => exact oi⟩
abbrev Mf := En → S → R (List Sl)
inductive Ms (G : Gf) (Z H : Hp) (σ : L2.St) (ρ : En) : List V → List Sl → List Addr → Prop
  | nil : Ms G Z H σ ρ [] [] []
  | val {v : V} {d : D} {vs : List V} {ls : List Sl} {ps : List Addr} (r : Rp G.B Z v d) (m : Ms G Z H σ ρ vs ls ps) : Ms G Z H σ ρ (v :: vs) (.val d :: ls) ps
  | own {p : Addr} {ws : List V} {ds : List D} {vs : List V} {ls : List Sl} {ps : List Addr} (e : H p = some (.lst ws)) (o : Own1 G Z σ ρ p) (r : Rps G.B Z ws ds) (n : p ∉ ps) (m : Ms G Z H σ ρ vs ls ps) : Ms G Z H σ ρ (.ref p :: vs) (.own ds :: ls) (p :: ps)
theorem Own1.seen {G : Gf} {Z : Hp} {σ : L2.St} {ρ : En} {p q : Addr} {o : HO} (w : Own1 (G.hide p o) Z σ ρ q) : Own1 G Z σ ρ q ∧ q ≠ p :=
  ⟨⟨⟨w.f.z, w.f.h, fun c hc => w.f.d c (List.mem_cons_of_mem _ hc)⟩, w.h, w.d⟩, w.f.d (p, o) List.mem_cons_self⟩
theorem Ms.seen {G : Gf} {Z H : Hp} {σ : L2.St} {ρ : En} {p : Addr} {o : HO} : ∀ {vs : List V} {ls : List Sl} {ps : List Addr}, Ms (G.hide p o) Z H σ ρ vs ls ps → Ms G Z H σ ρ vs ls ps ∧ p ∉ ps
  | _, _, _, .nil => ⟨.nil, fun h => nomatch h⟩
  | _, _, _, .val r m => ⟨.val r (Ms.seen m).1, (Ms.seen m).2⟩
  | _, _, _, .own e w r n m => ⟨.own e w.seen.1 r n (Ms.seen m).1, fun h => by
    rcases List.mem_cons.mp h with h | h
    · exact w.seen.2 h.symm
    · exact (Ms.seen m).2 h⟩
def tVM (G : Gf) (W : WX) (f : Mf) : TA := fun σ H Q => ∃ Z ρ s, VI G Z H σ ρ s ∧ ROk G W σ ρ Z (f ρ s) fun ls s' => ∀ vs ps Z' H', VI G Z' H' σ ρ s' → Same Z Z' → Ms G Z' H' σ ρ vs ls ps → Q vs H'
def VM (B : Tb) (u : Option (Addr × Value × Option Addr)) (X : Cx) (W : WX) (es : List Expr) (f : Mf) : Prop := ∀ G : Gf, G.B = B ∧ G.ux = u → PA X es (tVM G W f)
def mNil : Mf := fun _ s => .ok [] s
def mVal (fe : Ef) (fr : Mf) : Mf := fun ρ s => (fe ρ s).bind fun d s1 => (fr ρ s1).bind fun ls s2 => .ok (.val d :: ls) s2
def mOwn (fe : Lf) (fr : Mf) : Mf := fun ρ s => (fe ρ s).bind fun ds s1 => (fr ρ s1).bind fun ls s2 => .ok (.own ds :: ls) s2
theorem vm_nil : VM B u X W [] mNil := fun G hG => pa_mono pa_nil fun σ H Q ⟨Z, ρ, s, I, h⟩ => h [] [] Z H I (Same.refl Z) .nil
theorem vm_val {fr : Mf} (he : VE B u X W e fe) (hr : VM B u X W es fr) (hs : starEach (e :: es) X.env = (false, eval e X.env) :: starEach es X.env := by rfl) : VM B u X W (e :: es) (mVal fe fr) := by
  intro G hG
  refine pa_mono (pa_cons (he G hG) (hr G hG) hs) fun σ H Q ⟨Z, ρ, s, I, h⟩ => ?_
  refine ⟨Z, ρ, s, I, h.bind.up (Same.refl Z) fun d s1 h1 v Z1 H1 I1 z1 rv => ?_⟩
  exact ⟨Z1, ρ, s1, I1, (ROk.bind h1).up z1 fun ls s2 h2 vs ps Z2 H2 I2 z2 m => h2 (v :: vs) ps Z2 H2 I2 (z1.trans z2) (.val (rv.mono z2) m)⟩
theorem ROk.hide {G : Gf} {σ : L2.St} {ρ : En} {Z : Hp} {p : Addr} {o : HO} {α : Type} {r : R α} {k : α → S → Prop} (h : ROk G W σ ρ Z r k) : ROk (G.hide p o) W σ ρ Z r k := by
  cases r with
  | ok x s => exact h
  | bad => exact h
  | exc c fs s => exact fun d vs Z' H' I z e l rs => h d vs Z' H' I.seen z e l rs
theorem vm_own {fe : Lf} {fr : Mf} (he : VF B u X W e fe) (hr : VM B u X W es fr) (hs : starEach (e :: es) X.env = (false, eval e X.env) :: starEach es X.env := by rfl) : VM B u X W (e :: es) (mOwn fe fr) := by
  intro G hG
  have any : PA X es (fun σ H Q => ∃ G : Gf, (G.B = B ∧ G.ux = u) ∧ tVM G W fr σ H Q) := ⟨fun pos pins s σ H Q I ⟨G, hG, q⟩ => (hr G hG).run pos pins s σ H Q I q⟩
  refine pa_mono (pa_cons (he G hG) any hs) fun σ H Q ⟨Z, ρ, s, I, h⟩ => ?_
  refine ⟨Z, ρ, s, I, h.bind.up (Same.refl Z) fun ds s1 h1 p ws Z1 H1 I1 z1 ep w r => ?_⟩
  refine ⟨G.hide p (.lst ws), hG, Z1, ρ, s1, I1.hideOwn ep w, (ROk.hide (ROk.bind h1)).up z1 fun ls s2 h2 vs ps Z2 H2 I2 z2 m => ?_⟩
  exact h2 (.ref p :: vs) (p :: ps) Z2 H2 I2.seen (z1.trans z2) (.own (I2.hid (p, .lst ws) List.mem_cons_self).1 (Own1.hidden I2 w.h w.f.h w.f.d) (r.mono z2) m.seen.2 m.seen.1)
theorem Own1.setVal {G : Gf} {Z : Hp} {σ : L2.St} {ρ : En} {p : Addr} {i : Nat} {v : V} {d : D} (w : Own1 G Z σ ρ p) : Own1 G Z (σ.set i (some v)) (ρ.set i (.val d)) p :=
  ⟨w.f, w.h, fun j oj => by
    obtain ⟨n, o⟩ := ownAt_set_val oj
    rw [List.getElem?_set_ne (Ne.symm n)]
    exact w.d j o⟩
theorem Own1.setOwn {G : Gf} {Z : Hp} {σ : L2.St} {ρ : En} {p q : Addr} {i : Nat} {ds : List D} (w : Own1 G Z σ ρ p) (n : p ≠ q) : Own1 G Z (σ.set i (some (.ref q))) (ρ.set i (.own ds)) p :=
  ⟨w.f, w.h, fun j oj ej => by
    by_cases c : j = i
    · subst c
      rw [List.getElem?_set_self'] at ej
      cases z : σ[j]? with
      | none => rw [z] at ej; cases ej
      | some y => rw [z] at ej; cases ej; exact n rfl
    · rw [List.getElem?_set_ne (Ne.symm c)] at ej
      exact w.d j (ownAt_set oj c) ej⟩
theorem Ms.setVal {G : Gf} {Z H : Hp} {σ : L2.St} {ρ : En} {i : Nat} {v : V} {d : D} : ∀ {vs : List V} {ls : List Sl} {ps : List Addr}, Ms G Z H σ ρ vs ls ps → Ms G Z H (σ.set i (some v)) (ρ.set i (.val d)) vs ls ps
  | _, _, _, .nil => .nil
  | _, _, _, .val r m => .val r m.setVal
  | _, _, _, .own e w r n m => .own e w.setVal r n m.setVal
theorem Ms.setOwn {G : Gf} {Z H : Hp} {σ : L2.St} {ρ : En} {i : Nat} {q : Addr} {ds : List D} : ∀ {vs : List V} {ls : List Sl} {ps : List Addr}, Ms G Z H σ ρ vs ls ps → q ∉ ps → Ms G Z H (σ.set i (some (.ref q))) (ρ.set i (.own ds)) vs ls ps
  | _, _, _, .nil, _ => .nil
  | _, _, _, .val r m, h => .val r (m.setOwn h)
  | _, _, _, .own e w r n m, h => .own e (w.setOwn fun c => h (by rw [c]; exact List.mem_cons_self)) r n (m.setOwn fun c => h (List.mem_cons_of_mem _ c))
theorem Ms.one {G : Gf} {Z H : Hp} {σ : L2.St} {ρ : En} {s : S} {v : V} {x : Sl} {vs : List V} {ls : List Sl} {ps : List Addr} (I : VI G Z H σ ρ s) (i : Nat) (m : Ms G Z H σ ρ (v :: vs) (x :: ls) ps) :
    VI G Z H (σ.set i (some v)) (ρ.set i x) s ∧ ∃ ps', Ms G Z H (σ.set i (some v)) (ρ.set i x) vs ls ps' := by
  cases m with
  | val r m => exact ⟨I.setVal r, _, m.setVal⟩
  | own e w r n m => exact ⟨I.setOwn e w r, _, m.setOwn n⟩
def sPar3M (i j l : Nat) (f : Mf) : Sf := fun ρ s => (f ρ s).then ρ fun ls s1 => match ls with
  | [x, y, z] => .nx (((ρ.set i x).set j y).set l z) s1
  | _ => .bad
theorem ms2 {G : Gf} {Z H : Hp} {σ : L2.St} {ρ : En} {vs : List V} {x y : Sl} {ps : List Addr} (m : Ms G Z H σ ρ vs [x, y] ps) : ∃ v w, vs = [v, w] := by
  cases m with
  | val r m => cases m with
    | val r m => cases m; exact ⟨_, _, rfl⟩
    | own e w r n m => cases m; exact ⟨_, _, rfl⟩
  | own e w r n m => cases m with
    | val r m => cases m; exact ⟨_, _, rfl⟩
    | own e w r n m => cases m; exact ⟨_, _, rfl⟩
theorem vs_par3M (i j l : Nat) {a b c : Expr} {x y z : Str} {f : Mf} {px py pz pt : Pos} {kt k2 pt2} (hc : X.calm = true) (hN : X.N.Nodup) (hi : X.N[i]? = some x) (hj : X.N[j]? = some y) (hl : X.N[l]? = some z) (hij : i ≠ j) (hil : i ≠ l) (hjl : j ≠ l)
    (hx : X.env.scope.names.lookup x = some .local) (hy : X.env.scope.names.lookup y = some .local) (hz : X.env.scope.names.lookup z = some .local) (ha : VM B u X W [a, b, c] f)
    (hw : swappedStores [.Tuple [.Name x px, .Name y py, .Name z pz] kt pt] (.Tuple [a, b, c] k2 pt2) X.env = pure (some [x, y, z]))
    (hs : swapsWithSole [.Tuple [.Name x px, .Name y py, .Name z pz] kt pt] (.Tuple [a, b, c] k2 pt2) pos.line X.env = pure false := by rfl) :
    VS B u X W (.Assign [.Tuple [.Name x px, .Name y py, .Name z pz] kt pt] (.Tuple [a, b, c] k2 pt2) pos) (sPar3M i j l f) := by
  intro G hG
  refine ps_mono (ps_par3 (i := i) (j := j) (l := l) hc hN hi hj hl hij hil hjl hx hy hz (ha G hG) hw hs) fun D' σ H ⟨Z, ρ, s, I, h⟩ => ?_
  refine ⟨Z, ρ, s, I, (SOk.from h σ).up (Same.refl Z) fun ls s1 h1 vs ps Z1 H1 I1 z1 m => ?_⟩
  match ls, m, h1 with
  | [s1, s2, s3], m, h1 =>
    obtain ⟨v, vs', e1⟩ : ∃ v vs', vs = v :: vs' := by cases m <;> exact ⟨_, _, rfl⟩
    subst e1
    obtain ⟨I2, ps2, m2⟩ := Ms.one I1 i m
    obtain ⟨w, t, rfl⟩ := ms2 m2
    obtain ⟨I3, ps3, m3⟩ := Ms.one I2 j m2
    obtain ⟨I4, _, _⟩ := Ms.one I3 l m3
    exact ⟨v, w, t, rfl, h1 _ Z1 H1 I4 z1⟩
end
end Vv
/-- the tuple at a and the list at b as they stand at each turn, the items in new pairs -/
def IteZ (K : PySem.W.Frag) (a b : Addr) : It :=
  ⟨fun i H => ∃ (xs ys : List V) (x y : V), SqT K H a xs ∧ SqL K H b ys ∧ xs[i]? = some x ∧ ys[i]? = some y,
    fun i H v H' => ∃ T x y, v = .ref T ∧ H T = none ∧ H' = L2.upd H T (.tup [x, y]) ∧ (∀ xs, SqT K H a xs → xs[i]? = some x) ∧ ∀ ys, SqL K H b ys → ys[i]? = some y,
    fun i H => ∃ xs ys : List V, SqT K H a xs ∧ SqL K H b ys ∧ i = xs.length ∧ i = ys.length⟩
theorem tl_ne {h : Heap} {a b : Addr} {c d : String} {o p : Obj} (e : h.get? a = some o) (f : h.get? b = some p) (ec : o.cls = .type c) (fc : p.cls = .type d) (n : c ≠ d) : a ≠ b := fun z => by
  subst z
  rw [e] at f
  cases f
  exact n (Value.type.inj (ec.symm.trans fc))
theorem turn_zipX {P : Program} {w : World} {K : PySem.W.Frag} {elts : List Expr} {kk : Nat} {tpos : Pos} {a b z TI TO i1 i2 : Addr} (S : PySem.ZipSep2 z TI TO i1 i2 [i1, a] [i2, b]) :
    Turn P w K (.Tuple elts kk tpos) (IteZ K a b) [z, TI, TO, i1, i2] z (fun i h => IsZip h z TI TO .none ∧ PySem.IsTupOf2 h TI (.ref i1) (.ref i2) ∧ (∃ x y, PySem.IsTupOf2 h TO x y) ∧ h.IsTupleIter i1 a i ∧ h.IsListIter i2 b i) where
  mem := by simp
  obj := fun i h st c hc => by
    obtain ⟨hz, hTI, ⟨x, y, hTO⟩, ⟨o1, e1, _, d1⟩, ⟨o2, e2, _, d2⟩⟩ := st
    have e' : c = z ∨ c = TI ∨ c = TO ∨ c = i1 ∨ c = i2 := by simpa using hc
    rcases e' with q | q | q | q | q
    · rw [q]; exact ⟨_, hz, fun v q => nomatch q⟩
    · rw [q]; exact ⟨_, hTI, fun v q => nomatch q⟩
    · rw [q]; exact ⟨_, hTO, fun v q => nomatch q⟩
    · rw [q]; exact ⟨o1, e1, fun v q => by rw [d1] at q; cases q⟩
    · rw [q]; exact ⟨o2, e2, fun v q => by rw [d2] at q; cases q⟩
  keep := fun i h h' st k => by
    obtain ⟨hz, hTI, ⟨x, y, hTO⟩, h1, h2⟩ := st
    exact ⟨k z (by simp) _ hz, k TI (by simp) _ hTI, ⟨x, y, k TO (by simp) _ hTO⟩, h1.at fun o q => k i1 (by simp) o q, h2.at fun o q => k i2 (by simp) o q⟩
  item := by
    intro X hP hw hK hc i pins s σ H E I hf st hg
    subst hP hw hK
    obtain ⟨hz, hTI, ⟨x0, y0, hTO⟩, h1, h2⟩ := st
    obtain ⟨xs, ys, x, y, hqx, hqy, hx, hy⟩ := hg
    obtain ⟨its, rv, p, _⟩ := I.tuple hqx
    obtain ⟨its2, rv2, p2, _⟩ := I.list hqy
    obtain ⟨u, hu, ru⟩ := rv.get hx
    obtain ⟨u2, hu2, ru2⟩ := rv2.get hy
    have hzl : z < s.heap.objs.size := Heap.lt_size hz
    have pt : s.heap.IsTuple a its.toArray := p
    have pl : s.heap.IsList b its2.toArray := p2.isList
    have D1 := PySem.Draws.tuple (prog := X.prog) (w := X.w) (A := X.A.in1) (I.ok.hd hc) i1 a (tup_ne pt h1) its.toArray
    have D2 := PySem.Draws.list (prog := X.prog) (w := X.w) (A := X.A.in1) (I.ok.hd hc) i2 b (by
      obtain ⟨o1, q1, c1, _⟩ := pl
      obtain ⟨o2, q2, c2, _⟩ := h2
      exact tl_ne q1 q2 c1 c2 (by decide)) its2.toArray
    have l1 : i < its.toArray.size := by
      obtain ⟨h1, _⟩ := List.getElem?_eq_some_iff.mp hu
      simpa using h1
    have l2 : i < its2.toArray.size := by
      obtain ⟨h1, _⟩ := List.getElem?_eq_some_iff.mp hu2
      simpa using h1
    refine PySem.wpAny_pyNext_zipD2_item S D1 D2 hz hTI hTO ⟨h1, pt⟩ ⟨h2, pl⟩ l1 l2 fun x1 x2 h' tk y1 y2 z' TO' d1 d2 hT hsz hk => ?_
    obtain rfl : u = x1 := by
      rw [List.getElem?_toArray, hu] at y1
      exact Option.some.inj y1
    obtain rfl : u2 = x2 := by
      rw [List.getElem?_toArray, hu2] at y2
      exact Option.some.inj y2
    refine ⟨_, rfl, wpAny_letOwnedTupleGo_zip (s := { s with heap := h', toks := tk }) z' fun h'' z'' sb => ?_⟩
    have hT2 : h''.get? s.heap.objs.size = some { cls := .type "tuple", data := .seq #[u, u2] } := (sb.2 _ (Nat.ne_of_gt hzl)).trans hT
    have new : ObjOk X.prog X.w (L2.upd H s.heap.objs.size (.tup [x, y])) h'' s.heap.objs.size (.tup [x, y]) :=
      ⟨by show 2 ≤ sizeLine; decide, [u, u2], .cons ru (.cons ru2 .nil), ⟨_, hT2, rfl, _, rfl⟩⟩
    have I1 : L2.Inv X pins σ (L2.upd H s.heap.objs.size (.tup [x, y])) { s with heap := h'', toks := tk } :=
      I.turnedNew (ch := [z, TI, TO, i1, i2]) (fun c o hb q => (sb.2 c (fun q' => hb (by simp [q']))).trans (hk c o (fun q' => hb (by simp [q'])) (fun q' => hb (by simp [q'])) (fun q' => hb (by simp [q'])) (fun q' => hb (by simp [q'])) q)) hf (Nat.le_refl _) new
    refine ⟨.ref s.heap.objs.size, _, I1, rfl, ⟨_, x, y, rfl, I.hok.fresh (Nat.le_refl _), rfl, fun l hl => by rw [I.tuple_inj hl hqx]; exact hx, fun l hl => by rw [I.list_inj hl hqy]; exact hy⟩, ⟨z'', ?_, ⟨u, u2, ?_⟩, ?_, ?_⟩, fun c hcm => ?_⟩
    · exact (sb.2 _ S.TIz).trans (hk _ _ S.TIz S.TITO S.TIi1 S.TIi2 hTI)
    · exact (sb.2 _ S.TOz).trans TO'
    · exact d1.1.at fun o q => (sb.2 _ (Ne.symm S.zi1)).trans q
    · exact d2.1.at fun o q => (sb.2 _ (Ne.symm S.zi2)).trans q
    · have hlt : c < s.heap.objs.size := by
        have e' : c = z ∨ c = TI ∨ c = TO ∨ c = i1 ∨ c = i2 := by simpa using hcm
        rcases e' with q | q | q | q | q
        · rw [q]; exact hzl
        · rw [q]; exact Heap.lt_size hTI
        · rw [q]; exact Heap.lt_size hTO
        · rw [q]; obtain ⟨_, e1, _⟩ := h1; exact Heap.lt_size e1
        · rw [q]; obtain ⟨_, e2, _⟩ := h2; exact Heap.lt_size e2
      rw [upd_ne (Nat.ne_of_lt hlt)]
      exact (hf c hcm).1
  done := by
    intro X hP hw hK hc i pins s σ H E I hf st hg
    subst hP hw hK
    obtain ⟨hz, hTI, ⟨x0, y0, hTO⟩, h1, h2⟩ := st
    obtain ⟨xs, ys, hqx, hqy, en1, en2⟩ := hg
    obtain ⟨its, rv, p, _⟩ := I.tuple hqx
    obtain ⟨its2, rv2, p2, _⟩ := I.list hqy
    have l1 := rv.length
    have l2 := rv2.length
    have pt : s.heap.IsTuple a its.toArray := p
    have pl : s.heap.IsList b its2.toArray := p2.isList
    have D1 := PySem.Draws.tuple (prog := X.prog) (w := X.w) (A := X.A.in1) (I.ok.hd hc) i1 a (tup_ne pt h1) its.toArray
    have D2 := PySem.Draws.list (prog := X.prog) (w := X.w) (A := X.A.in1) (I.ok.hd hc) i2 b (by
      obtain ⟨o1, q1, c1, _⟩ := pl
      obtain ⟨o2, q2, c2, _⟩ := h2
      exact tl_ne q1 q2 c1 c2 (by decide)) its2.toArray
    exact PySem.wpAny_pyNext_zipD2_end S D1 D2 hz hTI hTO ⟨h1, pt⟩ ⟨h2, pl⟩ (by simp; omega) (by simp; omega) (.inl (by simp; omega)) fun h' tk hk => ⟨rfl, I.turnedL (t' := tk) (ch := [z, TI, TO, i1, i2]) (fun c o hb q =>
      hk c o (fun q' => hb (by simp [q'])) (fun q' => hb (by simp [q'])) (fun q' => hb (by simp [q'])) (fun q' => hb (by simp [q'])) q) hf⟩
  self := fun A i s Q E st h => wpAny_pyIter_zip st.1 h
theorem nmem2 {x i a : Nat} (h1 : x ≠ i) (h2 : x ≠ a) : (x : Addr) ∉ ([i, a] : List Addr) := fun hm => by
  rcases (show (x : Addr) = i ∨ (x : Addr) = a by simpa using hm) with z | z
  · exact h1 z
  · exact h2 z
theorem sep_new {N a b : Nat} (la : a < N) (lb : b < N) : PySem.ZipSep2 (N + 4 : Nat) (N + 2 : Nat) (N + 3 : Nat) N (N + 1 : Nat) [N, a] [(N + 1 : Nat), b] :=
  { TIz := show (N + 2 : Nat) ≠ N + 4 by omega, TOz := show (N + 3 : Nat) ≠ N + 4 by omega, TITO := show (N + 2 : Nat) ≠ N + 3 by omega,
    TIi1 := show (N + 2 : Nat) ≠ N by omega, mem1 := List.mem_cons_self .., zf1 := nmem2 (by omega) (by omega), Tf1 := nmem2 (by omega) (by omega),
    TIi2 := show (N + 2 : Nat) ≠ N + 1 by omega, mem2 := List.mem_cons_self .., zf2 := nmem2 (by omega) (by omega), Tf2 := nmem2 (by omega) (by omega),
    sep1_2 := nmem2 (by omega) (by omega), sep2_1 := nmem2 (by omega) (by omega) }
/-- zip(e, e2), e a tuple, e2 a list -/
def iZipX (K : PySem.W.Frag) (ta : TA) : TI := fun σ H R => ta σ H fun vs H1 => ∃ a b xs ys, vs = [.ref a, .ref b] ∧ SqT K H1 a xs ∧ SqL K H1 b ys ∧ R (IteZ K a b) H1
theorem pi_zipX {X : Cx} {K : PySem.W.Frag} {e e2 : Expr} {ta : TA} {p pos tpos : Pos} {elts : List Expr} {kk : Nat} (hK : X.K = K) (hg : Gl X "zip") (hm : X.mg "zip" = none) (ha : PA X [e, e2] ta)
    (hs : starEach [e, e2] X.env = (false, eval e X.env) :: starEach [e2] X.env := by rfl) (hpl : (backTo pos (starEach [e2] X.env)).any (·.1) = false := by rfl) :
    PI X (.Tuple elts kk tpos) (.Call (.Name "zip" p) [e, e2] [] pos) (iZipX K ta) := by
  subst hK
  refine ⟨fun pins s σ H R I h => ?_⟩
  refine Call_ (ld_blt I hg hm PyProof.Rows.boot_zip (PyProof.Rows.callWith_type1 (thn (ha.run pos pins s σ H _ I h) fun us s1 ⟨vs, H1, I1, r1, q1⟩ => ?_) hs hpl))
  obtain ⟨a, b, xs, ys, ex, hqx, hqy, q⟩ := q1
  subst ex
  cases r1 with
  | cons r rr =>
    cases rr with
    | cons r' rr =>
      cases rr
      cases r
      cases r'
      have fresh5 : ∀ c, c ∈ [s1.heap.objs.size + 4, s1.heap.objs.size + 2, s1.heap.objs.size + 3, s1.heap.objs.size, s1.heap.objs.size + 1] → FpOk X pins H1 c := fun c hcm => by
        have e' : c = s1.heap.objs.size + 4 ∨ c = s1.heap.objs.size + 2 ∨ c = s1.heap.objs.size + 3 ∨ c = s1.heap.objs.size ∨ c = s1.heap.objs.size + 1 := by simpa using hcm
        have hle : s1.heap.objs.size ≤ c := by
          rcases e' with z | z | z | z | z
          · rw [z]; exact Nat.le_add_right _ _
          · rw [z]; exact Nat.le_add_right _ _
          · rw [z]; exact Nat.le_add_right _ _
          · rw [z]; exact Nat.le_refl _
          · rw [z]; exact Nat.le_add_right _ _
        exact I1.fpOk hle (I1.hok.fresh hle)
      obtain ⟨its, rv, p1, _⟩ := I1.tuple hqx
      obtain ⟨its2, rv2, p2, _⟩ := I1.list hqy
      have pt : s1.heap.IsTuple a its.toArray := p1
      have pl : s1.heap.IsList b its2.toArray := p2.isList
      have la : a < s1.heap.objs.size := by obtain ⟨_, q, _⟩ := pt; exact Heap.lt_size q
      have lb : b < s1.heap.objs.size := by obtain ⟨_, q, _⟩ := pl; exact Heap.lt_size q
      refine PySem.zip_begins2 (PySem.begins_tuple a its.toArray) (PySem.begins_list b its2.toArray) pt pl fun h' hz hTI hTO g1 g2 hsz hk => wpAny_pyIter_zip hz ?_
      have I2 : L2.Inv X pins σ H1 { s1 with heap := h' } := I1.kept (t' := s1.toks) hk
      exact ⟨s1.heap.objs.size + 4, [s1.heap.objs.size + 4, s1.heap.objs.size + 2, s1.heap.objs.size + 3, s1.heap.objs.size, s1.heap.objs.size + 1], _, _, H1, rfl, I2, turn_zipX (sep_new la lb), ⟨hz, hTI, ⟨_, _, hTO⟩, ⟨_, g1, rfl, rfl⟩, ⟨_, g2, rfl, rfl⟩⟩, fresh5, q⟩
theorem walk_zipX {K : PySem.W.Frag} {a b : Addr} {xs ys : List V} (hl : xs.length = ys.length) : Walk (IteZ K a b) xs.length (fun H => SqT K H a xs ∧ SqL K H b ys) (YPair (fun i => xs[i]?) (fun i => ys[i]?)) := by
  refine ⟨fun i _ hi q => ⟨xs, ys, xs[i], ys[i]'(hl ▸ hi), q.1, q.2, by simp [hi], by simp [hl ▸ hi]⟩, fun _ q => ⟨xs, ys, q.1, q.2, rfl, hl⟩, fun i H v H' _ q y => ?_⟩
  obtain ⟨T, x, z, e1, e2, e3, e4, e5⟩ := y
  exact ⟨T, x, z, e1, e2, e3, e4 xs q.1, e5 ys q.2⟩
namespace Vv
theorem walk_zipT {K : PySem.W.Frag} {a b : Addr} {xs ys : List V} (hl : xs.length = ys.length) : Walk (RZ.ItzT K a b) xs.length (fun H => SqT K H a xs ∧ SqT K H b ys) (YPair (fun i => xs[i]?) (fun i => ys[i]?)) := by
  refine ⟨fun i _ hi q => ⟨xs, ys, xs[i], ys[i]'(hl ▸ hi), q.1, q.2, by simp [hi], by simp [hl ▸ hi]⟩, fun _ q => ⟨xs, ys, q.1, q.2, .inl (Nat.le_refl _)⟩, fun i H v H' _ q y => ?_⟩
  obtain ⟨T, x, z, e1, e2, e3, e4, e5⟩ := y
  exact ⟨T, x, z, e1, e2, e3, e4 xs q.1, e5 ys q.2⟩
def zipD : List D → List D → List D
  | x :: xs, y :: ys => .tup [x, y] :: zipD xs ys
  | _, _ => []
theorem zipD_len : ∀ (xs ys : List D), xs.length = ys.length → (zipD xs ys).length = xs.length
  | [], [], _ => rfl
  | [], _ :: _, h => by simp at h
  | _ :: _, [], h => by simp at h
  | _ :: xs, _ :: ys, h => congrArg Nat.succ (zipD_len xs ys (by simpa using h))
theorem zipD_at : ∀ (xs ys : List D) (i : Nat) (x y : D), xs[i]? = some x → ys[i]? = some y → (zipD xs ys)[i]? = some (.tup [x, y])
  | _ :: _, _ :: _, 0, _, _, h1, h2 => by cases h1; cases h2; rfl
  | _ :: xs, _ :: ys, i + 1, x, y, h1, h2 => zipD_at xs ys i x y h1 h2
  | [], _, i, _, _, h1, _ => by simp at h1
  | _ :: _, [], i, _, _, _, h2 => by simp at h2
/-- a list or tuple -/
def seqD : D → Option (Bool × List D)
  | .lst l => some (true, l)
  | .tup l => some (false, l)
  | _ => none
def iZp (fa : Af) : Af := fun ρ s => (fa ρ s).bind fun ds s1 => match ds with
  | [x, y] => match seqD x, seqD y with
    | some (b, l), some (c, m) => if decide (l.length = m.length) && (b == c || (!b && c)) then .ok (zipD l m) s1 else .bad
    | _, _ => .bad
  | _ => .bad
theorem seqD_of {B : Tb} {Z : Hp} {v : V} {d : D} {b : Bool} {l : List D} (r : Rp B Z v d) (e : seqD d = some (b, l)) : ∃ a vs, v = .ref a ∧ Rps B Z vs l ∧ (b = true → Z a = some (.lst vs)) ∧ (b = false → SqT B.K Z a vs) := by
  cases r with
  | tup h r => cases e; exact ⟨_, _, rfl, r, (fun h => nomatch h), fun _ => h⟩
  | lst h r => cases e; exact ⟨_, _, rfl, r, (fun _ => h), fun h => nomatch h⟩
  | _ => cases e
section
variable {B : Tb} {u : Option (Addr × Value × Option Addr)} {X : Cx} {W : WX} {pos : Pos}
theorem vi_zip {e e2 : Expr} {fa : Af} {p pos tpos : Pos} {elts : List Expr} {kk : Nat} (hK : X.K = B.K) (hg : Gl X "zip") (hm : X.mg "zip" = none) (ha : VA B u X W [e, e2] fa)
    (hs : starEach [e, e2] X.env = (false, eval e X.env) :: starEach [e2] X.env := by rfl) (hpl : (backTo pos (starEach [e2] X.env)).any (·.1) = false := by rfl) :
    VIt B u X W (.Tuple elts kk tpos) (.Call (.Name "zip" p) [e, e2] [] pos) (iZp fa) := by
  intro G hG
  have h0 := ha G hG
  obtain ⟨rfl, rfl⟩ := hG
  refine pi_mono (pi_or (RZ.pi_zipA hg hm h0 hs hpl) (pi_zipX (K := G.B.K) hK hg hm h0 hs hpl)) fun σ H Rr ⟨Z, ρ, s, I, h⟩ => ?_
  have h := h.bind
  cases ef : fa ρ s with
  | bad => rw [ef] at h; exact h.elim
  | exc c fs s1 => rw [ef] at h; exact .inl ⟨Z, ρ, s, I, by rw [ef]; exact h⟩
  | ok ds s1 =>
    rw [ef] at h
    match ds, h, ef with
    | [], h, _ => exact h.elim
    | [_], h, _ => exact h.elim
    | _ :: _ :: _ :: _, h, _ => exact h.elim
    | [x, y], h, ef =>
      have h : ROk G W σ ρ Z (match seqD x, seqD y with
        | some (b, l), some (c, m) => if decide (l.length = m.length) && (b == c || (!b && c)) then .ok (zipD l m) s1 else .bad
        | _, _ => .bad) _ := h
      cases ex : seqD x with
      | none => rw [ex] at h; exact h.elim
      | some bl =>
        cases ey : seqD y with
        | none => rw [ex, ey] at h; exact h.elim
        | some cm =>
          obtain ⟨b, l⟩ := bl
          obtain ⟨c, m⟩ := cm
          rw [ex, ey] at h
          cases hk : (decide (l.length = m.length) && (b == c || (!b && c))) with
          | false => simp only [hk] at h; exact h.elim
          | true =>
            simp only [hk, if_true] at h
            obtain ⟨hl, hbc⟩ := Bool.and_eq_true_iff.mp hk
            have hl := of_decide_eq_true hl
            have key : ∀ {Z1 : Hp} {vs ws : List V}, Rps G.B Z1 vs l → Rps G.B Z1 ws m → ∀ i x y, vs[i]? = some x → ws[i]? = some y → ∃ dx dy : D, (zipD l m)[i]? = some (D.tup [dx, dy]) ∧ Rp G.B Z1 x dx ∧ Rp G.B Z1 y dy := fun r1 r2 i x y e1 e2 => by
              obtain ⟨d1, ed1, rd1⟩ := r1.at2 e1
              obtain ⟨d2, ed2, rd2⟩ := r2.at2 e2
              exact ⟨d1, d2, zipD_at _ _ _ _ _ ed1 ed2, rd1, rd2⟩
            cases b with
            | true =>
              cases c with
              | false => cases hbc
              | true =>
                refine .inl ⟨Z, ρ, s, I, ?_⟩
                rw [ef]
                intro vs Z1 H1 I1 z1 r
                match vs, r with
                | [v, w], .cons rv (.cons rw' .nil) =>
                  obtain ⟨a, xs, rfl, r1, ha, _⟩ := seqD_of rv ex
                  obtain ⟨b, ys, rfl, r2, hb, _⟩ := seqD_of rw' ey
                  have ha := ha rfl
                  have hb := hb rfl
                  exact ⟨a, b, xs, ys, rfl, .inl ⟨.inl (.inl (I1.zh _ _ ha)), .inl (.inl (I1.zh _ _ hb)), h _ Z1 H1 I1 z1 (walkD_pair (walk_zip (n := xs.length) (by rw [r1.len, r2.len, hl, Nat.min_self])) (by rw [zipD_len _ _ hl, r1.len]) (fun H z => ⟨.inl (.inl (z _ _ ha)), .inl (.inl (z _ _ hb))⟩) (key r1 r2))⟩⟩
            | false =>
              cases c with
              | false =>
                refine .inl ⟨Z, ρ, s, I, ?_⟩
                rw [ef]
                intro vs Z1 H1 I1 z1 r
                match vs, r with
                | [v, w], .cons rv (.cons rw' .nil) =>
                  obtain ⟨a, xs, rfl, r1, _, ha⟩ := seqD_of rv ex
                  obtain ⟨b, ys, rfl, r2, _, hb⟩ := seqD_of rw' ey
                  have ha := ha rfl
                  have hb := hb rfl
                  rw [hK]
                  exact ⟨a, b, xs, ys, rfl, .inr ⟨seqT_mono I1.zh ha, seqT_mono I1.zh hb, h _ Z1 H1 I1 z1 (walkD_pair (walk_zipT (by rw [r1.len, r2.len, hl])) (by rw [zipD_len _ _ hl, r1.len]) (fun H z => ⟨seqT_mono z ha, seqT_mono z hb⟩) (key r1 r2))⟩⟩
              | true =>
                refine .inr ⟨Z, ρ, s, I, ?_⟩
                rw [ef]
                intro vs Z1 H1 I1 z1 r
                match vs, r with
                | [v, w], .cons rv (.cons rw' .nil) =>
                  obtain ⟨a, xs, rfl, r1, _, ha⟩ := seqD_of rv ex
                  obtain ⟨b, ys, rfl, r2, hb, _⟩ := seqD_of rw' ey
                  have ha := ha rfl
                  have hb := hb rfl
                  exact ⟨a, b, xs, ys, rfl, seqT_mono I1.zh ha, .inl (.inl (I1.zh _ _ hb)), h _ Z1 H1 I1 z1 (walkD_pair (walk_zipX (by rw [r1.len, r2.len, hl])) (by rw [zipD_len _ _ hl, r1.len]) (fun H z => ⟨seqT_mono z ha, .inl (.inl (z _ _ hb))⟩) (key r1 r2))⟩
end
end Vv
namespace Vv
def aStar (fe : Ef) (fr : Af) : Af := fun ρ s => (fe ρ s).bind fun d s1 => match seqD d with
  | some (_, l) => (fr ρ s1).bind fun xs s2 => .ok (l ++ xs) s2
  | none => .bad
end Vv
namespace Vv
end Vv
namespace Vv
def lRg (f : Af) : Lf := fun ρ s => (f ρ s).bind fun ds s1 => match ds with
  | [.int n] => if decide (0 ≤ n) && decide (n ≤ 100000) then .ok (rangeL 0 n.toNat) s1 else .bad
  | [.int a, .int b] => if decide (-100000 ≤ a) && (decide (a ≤ 100000) && (decide (-100000 ≤ b) && decide (b ≤ 100000))) then .ok (rangeL a (b - a).toNat) s1 else .bad
  | _ => .bad
section
variable {B : Tb} {u : Option (Addr × Value × Option Addr)} {X : Cx} {W : WX} {pos pos2 p p2 : Pos} {e e2 : Expr} {fe fe2 : Ef}
theorem rps_ints {Z : Hp} (f : Nat → Int) : ∀ l : List Nat, Rps B Z (l.map fun i => V.int (f i)) (l.map fun i => D.int (f i))
  | [] => .nil
  | _ :: l => .cons (.int _) (rps_ints f l)
theorem vf_rg1 (hc : X.calm = true) (hg : Gl X "list") (hm : X.mg "list" = none) (hg2 : Gl X "range") (hm2 : X.mg "range" = none) (he : VE B u X W e fe) (n1 : starEach [e] X.env = (false, eval e X.env) :: starEach [] X.env := by rfl)
    (na : starEach [.Call (.Name "range" p2) [e] [] pos2] X.env = (false, eval (.Call (.Name "range" p2) [e] [] pos2) X.env) :: starEach [] X.env := by rfl) : VF B u X W (.Call (.Name "list" p) [.Call (.Name "range" p2) [e] [] pos2] [] pos) (lRg (aCons fe aNil)) := by
  intro G hG
  have h0 := he G hG
  obtain ⟨rfl, rfl⟩ := hG
  refine pe_mono (pe_listRg hc hg hm (prg_1 hg2 hm2 h0 n1) na) fun σ H Q ⟨Z, ρ, s, I, h⟩ => ?_
  have h := h.bind
  have h : ROk G W σ ρ Z ((fe ρ s).bind fun x s1 => .ok [x] s1) _ := h
  refine ⟨Z, ρ, s, I, (ROk.bind h).up (Same.refl Z) fun d s1 h1 v Z1 H1 I1 z1 rv => ?_⟩
  cases d with
  | int n =>
    cases rv
    have h1 : ROk G W σ ρ Z (if decide (0 ≤ n) && decide (n ≤ 100000) then .ok (rangeL 0 n.toNat) s1 else .bad) _ := h1
    cases hk : (decide (0 ≤ n) && decide (n ≤ 100000)) with
    | false => simp only [hk] at h1; exact h1.elim
    | true =>
      simp only [hk, if_true] at h1
      simp only [Bool.and_eq_true, decide_eq_true_eq] at hk
      refine ⟨n, rfl, RgOk.of_le (by omega) (by omega) (by omega) (by omega), fun q hq => ?_⟩
      refine h1 q _ Z1 _ (I1.step (Step.newH _ I1.zh hq)) z1 upd_same (I1.own1 hq) ?_
      have e : (n - 0).toNat = n.toNat := by omega
      unfold rgV rangeL
      rw [e]
      exact rps_ints _ _
  | _ => exact h1.elim
end
end Vv
namespace Vv
end Vv
namespace Vv
/-- a constant empty tuple -/
def EmpT (K : PySem.W.Frag) (t : Addr) : Prop := ∃ (o : Obj) (n : Nat), K.lookup t = some o ∧ o.cls = .type "tuple" ∧ o.data = .seq #[] n
/-- the last parameter's default is an empty tuple -/
def Dflt0 (K : PySem.W.Frag) (fd : FuncData) (ps : List Str) : Prop := ∃ ed, EmpT K ed ∧ Binds K fd ps [.ref ed]
theorem binds0 {K : PySem.W.Frag} {fd : FuncData} {ps : List Str} {T : Addr} {o : Obj} {v : Value} {n : Nat} (lT : K.lookup T = some o) (oT : o.data = .seq #[v] n)
    (h : ∀ us : List Value, us.length + 1 = ps.length → ∃ k, bindArgs fd ⟨us, []⟩ = seqItems? (.ref T) >>= k ∧ k (some #[v]) = pure (ps.zip (us ++ [v]))) : Binds K fd ps [v] := fun s us X hl => by
  obtain ⟨k, e1, e2⟩ := h us (by rw [List.length_append] at hl; exact hl)
  refine BindsTo.of_looks fun M => ?_
  rw [e1]
  exact looks_items X lT oT (.of_pure e2)
theorem mt_joinA {X : Cx} {B : Tb} (hK : X.K = B.K) : MtR X "str.join" (rJoin1 B.K) := hK ▸ mt_join
end Vv
namespace Vv
end Vv
namespace Vv
end Vv
namespace Vv
end Vv
namespace Vv
end Vv
namespace Vv
end Vv
namespace Vv
section
variable {B : Tb} {X : Cx} {pos : Pos}
def gtTL (n : Nat) (gt : List D → En → Option En) : D → En → Option En
  | .tup ds, ρ => if ds.length = n then gt ds ρ else none
  | .lst ds, ρ => if ds.length = n then gt ds ρ else none
  | _, _ => none
end
end Vv
namespace Vv
section
variable {B : Tb} {u : Option (Addr × Value × Option Addr)} {X : Cx} {W : WX} {pos : Pos} {e : Expr}
def xVI (B : Tb) (u : Option (Addr × Value × Option Addr)) (W : WX) (fi : Af) : TI := fun σ H Rr => ∃ G : Gf, (G.B = B ∧ G.ux = u) ∧ tVI G W fi σ H Rr
theorem VIt.x {tg iter : Expr} {fi : Af} (h : VIt B u X W tg iter fi) : PI X tg iter (xVI B u W fi) := ⟨fun pins s σ H Q I ⟨G, hG, q⟩ => (h G hG).run pins s σ H Q I q⟩
end
end Vv
namespace Vv
end Vv
namespace Vv
theorem VGok.sub {B : Tb} {is js : List Nat} {g : TG} {gt : D → En → Option En} (h : ∀ i ∈ is, i ∈ js) (o : VGok B is g gt) : VGok B js g gt := fun G Z H σ ρ s v d ρ' Q hB I r e k =>
  o G Z H σ ρ s v d ρ' Q hB I r e fun σ' I' w1 w2 => k σ' I' (fun ks hk => w1 ks fun i hi => hk i (h i hi)) (fun ks hk => w2 ks fun i hi => hk i (h i hi))
end Vv
namespace Vv
end Vv
namespace Vv
/-- two lists that are surely not one -/
def kindA : D → Nat
  | .non => 0
  | .bl _ => 1
  | .int _ => 2
  | .str _ => 3
  | .ty _ => 4
  | _ => 5
def clashL (l m : List D) : Bool := decide (l.length ≠ m.length) || (match l, m with
  | a :: _, b :: _ => !decide (kindA a = kindA b)
  | _, _ => false)
mutual
def keepD (os : List (List D)) : D → Bool
  | .tup l => keepL os l
  | .lst l => keepL os l && os.all (clashL l)
  | .obj _ l => keepL os l
  | .set _ => false
  | .dic _ vs => keepL os vs
  | _ => true
def keepL (os : List (List D)) : List D → Bool
  | [] => true
  | d :: l => keepD os d && keepL os l
end
def kindV : V → Nat
  | .non => 0
  | .bl _ => 1
  | .int _ => 2
  | .str _ => 3
  | .ty _ => 4
  | _ => 5
theorem kind_v {B : Tb} {Z : Hp} {v : V} {a : D} (r : Rp B Z v a) : kindA a = kindV v := by
  cases r <;> rfl
theorem kind_eq {B : Tb} {Z : Hp} {v : V} {a b : D} (r : Rp B Z v a) (q : Rp B Z v b) : kindA a = kindA b := (kind_v r).trans (kind_v q).symm
theorem clash_ne {B : Tb} {Z : Hp} {vs : List V} {l m : List D} (r : Rps B Z vs l) (q : Rps B Z vs m) (h : clashL l m = true) : False := by
  have e1 := r.len
  have e2 := q.len
  unfold clashL at h
  rw [decide_eq_false (by omega), Bool.false_or] at h
  cases r with
  | nil => cases h
  | cons a r =>
    cases q with
    | cons b q =>
      have e := kind_eq a b
      simp [e] at h
section
variable {B : Tb} {Z1 Zn : Hp} {os : List (List D)}
theorem sqT_of {a : Addr} {vs : List V} (hz : ∀ b o, Z1 b = some o → Zn b = some o ∨ ∃ ws ds, o = .lst ws ∧ Rps B Z1 ws ds ∧ ds ∈ os) (h : SqT B.K Z1 a vs) : SqT B.K Zn a vs := by
  rcases h with (h | ⟨o, h⟩) | h
  · rcases hz _ _ h with e | ⟨ws, ds, e, _⟩
    · exact .inl (.inl e)
    · cases e
  · rcases hz _ _ h with e | ⟨ws, ds, e, _⟩
    · exact .inl (.inr ⟨o, e⟩)
    · cases e
  · exact .inr h
mutual
theorem keep_of (hz : ∀ b o, Z1 b = some o → Zn b = some o ∨ ∃ ws ds, o = .lst ws ∧ Rps B Z1 ws ds ∧ ds ∈ os) : ∀ {v : V} {d : D}, Rp B Z1 v d → keepD os d = true → Rp B Zn v d
  | _, _, .non, _ => .non
  | _, _, .bl b, _ => .bl b
  | _, _, .int i, _ => .int i
  | _, _, .str l, _ => .str l
  | _, _, .ty n, _ => .ty n
  | _, _, .cl c, _ => .cl c
  | _, _, .tup h r, k => .tup (sqT_of hz h) (keeps_of hz r (by unfold keepD at k; exact k))
  | _, _, .lst (ds := ds) h r, k => by
    unfold keepD at k
    rw [Bool.and_eq_true] at k
    rcases hz _ _ h with e | ⟨ws, es, e, q, m⟩
    · exact .lst e (keeps_of hz r k.1)
    · cases e
      exact (clash_ne r q (List.all_eq_true.mp k.2 _ m)).elim
  | _, _, .obj h hl r, k => by
    unfold keepD at k
    rcases hz _ _ h with e | ⟨ws, es, e, _⟩
    · exact .obj e hl (keeps_of hz r k)
    · cases e
  | _, _, .dicK h hk r, k => by
    unfold keepD at k
    rcases hz _ _ h with e | ⟨ws, es, e, _⟩
    · exact .dicK e hk (keeps_of hz r k)
    · cases e
theorem keeps_of (hz : ∀ b o, Z1 b = some o → Zn b = some o ∨ ∃ ws ds, o = .lst ws ∧ Rps B Z1 ws ds ∧ ds ∈ os) : ∀ {vs : List V} {ds : List D}, Rps B Z1 vs ds → keepL os ds = true → Rps B Zn vs ds
  | _, _, .nil, _ => .nil
  | _, _, .cons h r, k => by
    unfold keepL at k
    rw [Bool.and_eq_true] at k
    exact .cons (keep_of hz h k.1) (keeps_of hz r k.2)
end
end
end Vv
namespace Vv
end Vv
namespace Vv
end Vv
namespace Vv
end Vv
namespace Gn
open PySem PySem.Spec PyProof.Rows GenW
end Gn
namespace Gn
open PySem PySem.Spec PyProof.Rows GenW
end Gn
namespace Vv
open GenW Gn
abbrev GR := List D × SR
def GOk (G : Gf) (W : WX) (Z : Hp) (D1 : GEnds) (r : GR) : Prop := match r.2 with
  | .nx ρ s => ∀ ys σ Z' H, VI G Z' H σ ρ s → Same Z Z' → Rps G.B Z' ys r.1 → D1.nx ys σ H
  | .bk ρ s => ∀ ys σ Z' H, VI G Z' H σ ρ s → Same Z Z' → Rps G.B Z' ys r.1 → D1.bk ys σ H
  | .ct ρ s => ∀ ys σ Z' H, VI G Z' H σ ρ s → Same Z Z' → Rps G.B Z' ys r.1 → D1.ct ys σ H
  | .rt d s => ∀ ys v σ ρ Z' H, VI G Z' H σ ρ s → Same Z Z' → Rps G.B Z' ys r.1 → Rp G.B Z' v d → D1.rt ys v H
  | .exc c fs ρ s => ∀ σ, ExOk G W σ ρ Z c fs s
  | .bad => False
section
variable {G : Gf} {W : WX} {Z Z1 : Hp} {D1 D2 : GEnds}
theorem GOk.up {r : GR} (z : Same Z Z1) (h : GOk G W Z D1 r) : GOk G W Z1 D1 r := by
  obtain ⟨o, r⟩ := r
  cases r with
  | nx ρ s => exact fun ys σ Z' H I z1 => h ys σ Z' H I (z.trans z1)
  | bk ρ s => exact fun ys σ Z' H I z1 => h ys σ Z' H I (z.trans z1)
  | ct ρ s => exact fun ys σ Z' H I z1 => h ys σ Z' H I (z.trans z1)
  | rt d s => exact fun ys v σ ρ Z' H I z1 => h ys v σ ρ Z' H I (z.trans z1)
  | exc c fs ρ s => exact fun σ => (h σ).up z
  | bad => exact h
/-- a plain statement's end -/
theorem GOk.plain {out : List D} {r : SR} {ys : List V} (rs : Rps G.B Z ys out) (h : GOk G W Z D1 (out, r)) : SOk G W Z (D1.at ys) r := by
  cases r with
  | nx ρ s => exact fun σ Z' H I z => h ys σ Z' H I z (rs.mono z)
  | bk ρ s => exact fun σ Z' H I z => h ys σ Z' H I z (rs.mono z)
  | ct ρ s => exact fun σ Z' H I z => h ys σ Z' H I z (rs.mono z)
  | rt d s => exact fun v σ ρ Z' H I z => h ys v σ ρ Z' H I z (rs.mono z)
  | exc c fs ρ s => exact h
  | bad => exact h
end
end Vv
namespace Vv
open PySem.Calls PySem.W
namespace Cmb
theorem plain : plainId "math.comb" = true := by decide +kernel
end Cmb
end Vv
namespace Vv
end Vv
namespace Vv
end Vv
namespace Vv
end Vv
namespace Vv
def Z00 : Hp := fun _ => none
def keepSl (es : List D) : Sl → Bool
  | .no => true
  | .val d => keepD [es] d
  | .own l => keepL [es] l
  | .ob _ _ => false
  | .dct _ _ => false
  | .hand => true
  | .exc _ fs => keepL [es] fs
  | .tab _ => false
  | .al _ _ => true
section
variable {B : Tb} {u : Option (Addr × Value × Option Addr)} {X : Cx} {W : WX} {pos : Pos} {e o k : Expr} {fe fo fk : Ef}
theorem VI.cut {G : Gf} {Z H : Hp} {σ : L2.St} {ρ : En} {s : S} {p : Addr} {vs vs' : List V} {es : List D} (I : VI G Z H σ ρ s) (hz : Z p = some (.lst vs)) (r : Rps G.B Z vs es) (h0 : G.Z0 = Z00) (k : ρ.all (keepSl es) = true) :
    VI G (fun b => if b = p then none else Z b) (upd H p (.lst vs')) σ ρ s := by
  have zp : ∀ b o, (if b = p then none else Z b) = some o → b ≠ p ∧ Z b = some o := fun b o e => by
    by_cases q : b = p
    · rw [if_pos q] at e; cases e
    · rw [if_neg q] at e; exact ⟨q, e⟩
  have nz : ∀ b, b ≠ p → (if b = p then none else Z b) = Z b := fun b q => if_neg q
  have n0 : ∀ b, Z b = none → (if b = p then none else Z b) = none := fun b q => by
    by_cases c : b = p
    · rw [if_pos c]
    · rw [if_neg c]; exact q
  have ne : ∀ b, Z b = none → b ≠ p := fun b q c => by rw [c, hz] at q; cases q
  have hz' : ∀ b o, Z b = some o → (if b = p then none else Z b) = some o ∨ ∃ ws ds, o = .lst ws ∧ Rps G.B Z ws ds ∧ ds ∈ [es] := fun b o q => by
    by_cases c : b = p
    · rw [c, hz] at q; cases q
      exact .inr ⟨vs, es, rfl, r, List.mem_singleton.mpr rfl⟩
    · exact .inl (by rw [if_neg c]; exact q)
  have p0 : G.H0 p = none := by
    rcases I.zn p _ hz with q | q
    · rw [h0] at q; cases q
    · exact q
  refine ⟨I.len, fun b o q => ?_, fun b o q => ?_, fun b o q => ?_, fun b o q h1 h2 => ?_, fun q hq => ?_, fun x hx => ?_, fun q hq => ?_, fun i x q => ?_, I.dis⟩
  · obtain ⟨a, q⟩ := zp b o q
    rw [upd_ne a]; exact I.zh b o q
  · rw [h0] at q; cases q
  · exact I.zn b o (zp b o q).2
  · rw [upd_ne (ne_of_none q p0)]; exact I.keep b o q h1 h2
  · obtain ⟨st, e1, hA, z1, z2, hd⟩ := I.hnd q hq
    exact ⟨st, e1, ⟨by rw [upd_ne (ne _ z1)]; exact hA.ea, by rw [upd_ne (ne _ z2)]; exact hA.el, hA.ne⟩, n0 _ z1, n0 _ z2, hd⟩
  · by_cases c : x = p
    · rw [c, upd_same]; exact fun z => nomatch z
    · rw [upd_ne c]; exact I.slf x hx
  · obtain ⟨q1, q2⟩ := I.hid q hq
    exact ⟨by rw [upd_ne (ne _ q2)]; exact q1, n0 _ q2⟩
  · have sl := I.sl i x q
    have kk := List.all_eq_true.mp k x (List.mem_of_getElem? q)
    cases x with
    | no => trivial
    | val d => obtain ⟨v, e1, r1⟩ := sl; exact ⟨v, e1, keep_of hz' r1 kk⟩
    | own l => obtain ⟨a, ws, e1, h1, f1, m1, r1⟩ := sl; exact ⟨a, ws, e1, by rw [upd_ne (ne _ f1.z)]; exact h1, ⟨n0 _ f1.z, f1.h, f1.d⟩, m1, keeps_of hz' r1 kk⟩
    | ob c fs => cases kk
    | dct ks ds => cases kk
    | hand => exact sl
    | tab rows => cases kk
    | al j k => exact sl
    | exc c fs =>
      obtain ⟨a, d, ws, e1, x1, h1, l1, r1⟩ := sl
      have nd : d ≠ p := fun c => by rw [c, hz] at h1; cases h1
      exact ⟨a, d, ws, e1, x1, (nz d nd).trans h1, l1, keeps_of hz' r1 kk⟩
end
end Vv
namespace Vv
end Vv
namespace Vv
end Vv
namespace Vv
def keq : D → D → Bool
  | .int a, .int b => decide (a = b)
  | .str a, .str b => decide (a = b)
  | _, _ => false
theorem keq_of {a b : D} {x y : L2.Key} (ha : keyOf a = some x) (hb : keyOf b = some y) : keq a b = decide (x = y) := by
  cases a with
  | int i =>
    cases ha
    cases b with
    | int j => cases hb; exact decide_eq_decide.mpr ⟨fun h => by rw [h], fun h => Sum.inl.inj h⟩
    | str l => cases hb; exact (decide_eq_false fun h => nomatch h).symm
    | _ => cases hb
  | str l =>
    cases ha
    cases b with
    | int j => cases hb; exact (decide_eq_false fun h => nomatch h).symm
    | str m => cases hb; exact decide_eq_decide.mpr ⟨fun h => by rw [h], fun h => sOf_inj.mp (Sum.inr.inj h)⟩
    | _ => cases hb
  | _ => cases ha
theorem keysOf_cons {a : D} {ks : List D} {l : List L2.Key} (h : keysOf (a :: ks) = some l) : ∃ x r, keyOf a = some x ∧ keysOf ks = some r ∧ l = x :: r := by
  obtain ⟨x, e1, h⟩ := Option.bind_eq_some_iff.mp h
  obtain ⟨r, e2, rfl⟩ := Option.map_eq_some_iff.mp h
  exact ⟨x, r, e1, e2, rfl⟩
end Vv
namespace Vv
def getV : List D → List D → D → Option D
  | a :: ks, x :: ds, k => if keq a k then some x else getV ks ds k
  | _, _, _ => none
def RelG (B : Tb) (Z : Hp) : Option V → Option D → Prop
  | some v, some d => Rp B Z v d
  | none, none => True
  | _, _ => False
theorem get_rel {B : Tb} {Z : Hp} : ∀ {ks ds : List D} {kvs : List (L2.Key × V)} {k : D} {x : L2.Key}, keysOf ks = some (kvs.map Prod.fst) → keyOf k = some x → Rps B Z (kvs.map Prod.snd) ds → RelG B Z (L2.valV kvs x) (getV ks ds k)
  | [], ds, [], _, _, _, _, r => by unfold getV L2.valV; trivial
  | [], _, _ :: _, _, _, h, _, _ => by cases h
  | _ :: _, _, [], _, _, h, _, _ => by
    obtain ⟨_, _, _, _, h⟩ := keysOf_cons h
    cases h
  | a :: ks, _, kv :: kvs, k, x, h, e, r => by
    obtain ⟨y, q, e1, e2, h⟩ := keysOf_cons h
    cases h
    cases r with
    | cons r1 r2 =>
      have ih := get_rel e2 e r2
      unfold getV
      unfold L2.valV at ih ⊢
      rw [keq_of e1 e, List.find?_cons]
      by_cases c : kv.1 = x
      · rw [decide_eq_true c, if_pos rfl]
        exact r1
      · rw [decide_eq_false c, if_neg Bool.false_ne_true]
        exact ih
theorem Rkv.get {B : Tb} {Z : Hp} {ks ds : List D} {kvs : List (L2.Key × V)} {k : D} {x : L2.Key} (h : Rkv B Z kvs ks ds) (e : keyOf k = some x) : RelG B Z (L2.valV kvs x) (getV ks ds k) := get_rel h.hk e h.r
end Vv
namespace Vv
end Vv
namespace Vv
end Vv
namespace Vv
end Vv
namespace Vv
end Vv
namespace Vv
end Vv
namespace C3
end C3
namespace Vv
open C3
end Vv
namespace Vv
open PySem.Calls PySem.W
end Vv
namespace Vv
end Vv
namespace Vv
end Vv
namespace Vv
end Vv
namespace Vv
end Vv
namespace Vv
end Vv
namespace Vv
end Vv
namespace Vv
section
variable {G : Gf} {Z H : Hp} {σ : L2.St} {ρ : En} {s : S}
/-- a hidden list is laid into Z -/
theorem VI.lay {p : Addr} {vs : List V} (I : VI (G.hide p (.lst vs)) Z H σ ρ s) (h0 : G.H0 p = none) (hd : ∀ q ∈ G.hid, p ≠ q.1) : VI G (upd Z p (.lst vs)) H σ ρ s ∧ Same Z (upd Z p (.lst vs)) := by
  have o : Own1 G Z σ ρ p := Own1.hidden I h0 (fun q hq => by
    obtain ⟨st, e1, hA, z1, z2, hd⟩ := I.hnd q hq
    exact hd (p, .lst vs) List.mem_cons_self) hd
  exact o.frz I.seen (I.hid (p, .lst vs) List.mem_cons_self).1
end
inductive RR (B : Tb) (Z : Hp) : List (Addr × List V) → List (List D) → Prop where
  | nil : RR B Z [] []
  | cons {r : Addr × List V} {d : List D} {rs : List (Addr × List V)} {ds : List (List D)} (h : Rps B Z r.2 d) (t : RR B Z rs ds) : RR B Z (r :: rs) (d :: ds)
section
variable {B : Tb} {Z Z' : Hp}
theorem RR.mono (s : Same Z Z') : ∀ {rs : List (Addr × List V)} {ds : List (List D)}, RR B Z rs ds → RR B Z' rs ds
  | _, _, .nil => .nil
  | _, _, .cons h t => .cons (h.mono s) (t.mono s)
theorem RR.len : ∀ {rs : List (Addr × List V)} {ds : List (List D)}, RR B Z rs ds → rs.length = ds.length
  | _, _, .nil => rfl
  | _, _, .cons _ t => congrArg Nat.succ t.len
theorem RR.snoc {p : Addr} {vs : List V} {d : List D} (h : Rps B Z vs d) : ∀ {rs : List (Addr × List V)} {ds : List (List D)}, RR B Z rs ds → RR B Z (rs ++ [(p, vs)]) (ds ++ [d])
  | _, _, .nil => .cons h .nil
  | _, _, .cons a t => .cons a (RR.snoc h t)
theorem RR.at : ∀ {rs : List (Addr × List V)} {ds : List (List D)} {i : Nat} {d : List D}, RR B Z rs ds → ds[i]? = some d → ∃ r, rs[i]? = some r ∧ Rps B Z r.2 d
  | _, _, 0, _, .cons h _, e => by cases e; exact ⟨_, rfl, h⟩
  | _, _, i + 1, _, .cons _ t, e => t.at (i := i) e
theorem RR.set {p : Addr} {vs : List V} {d : List D} (h : Rps B Z vs d) : ∀ {rs : List (Addr × List V)} {ds : List (List D)} (i : Nat), RR B Z rs ds → RR B Z (rs.set i (p, vs)) (ds.set i d)
  | _, _, _, .nil => .nil
  | _, _, 0, .cons _ t => .cons h t
  | _, _, i + 1, .cons a t => .cons a (RR.set h i t)
end
theorem nodup_ix {α : Type} {l : List α} {x : α} {a b : Nat} (nd : l.Nodup) (h1 : l[a]? = some x) (h2 : l[b]? = some x) : a = b := by
  obtain ⟨l1, g1⟩ := List.getElem?_eq_some_iff.mp h1
  obtain ⟨l2, g2⟩ := List.getElem?_eq_some_iff.mp h2
  have pw := List.pairwise_iff_getElem.mp nd
  rcases Nat.lt_trichotomy a b with h | h | h
  · exact absurd (g1.trans g2.symm) (pw a b l1 l2 h)
  · exact h
  · exact absurd (g2.trans g1.symm) (pw b a l2 l1 h)
def xVF (B : Tb) (u : Option (Addr × Value × Option Addr)) (W : WX) (f : Lf) : TE := fun σ H Q => ∃ G : Gf, (G.B = B ∧ G.ux = u) ∧ tVF G W f σ H Q
theorem VF.x {B : Tb} {u : Option (Addr × Value × Option Addr)} {X : Cx} {W : WX} {e : Expr} {f : Lf} (h : VF B u X W e f) : PE X e (xVF B u W f) := ⟨fun pins s σ H Q I ⟨G, hG, q⟩ => (h G hG).run pins s σ H Q I q⟩
end Vv
namespace Vv
def Tab.hid (T : Tab) : List (Addr × HO) := (T.p, .lst (T.its.map Itm.v)) :: T.its.filterMap Itm.h
def tabH (Ts : List Tab) : List (Addr × HO) := Ts.flatMap Tab.hid
structure TabsOk (G : Gf) : Prop where
  hid : G.hid = tabH G.tabs
  nd : (G.hid.map (·.1)).Nodup
  h0 : ∀ q ∈ G.hid, G.H0 q.1 = none
  ix : (G.tabs.map (·.i)).Nodup
/-- what stands at a return: the frame, Z, the heap, the value, the thing -/
abbrev Ret := Gf → Hp → Hp → V → D → Prop
def SOkW (Φ : Gf → Prop) (Ψ : Ret) (W : WX) (Z : Hp) (D' : Ends) : SR → Prop
  | .nx ρ s => ∀ G σ Z' H, Φ G → VI G Z' H σ ρ s → Same Z Z' → D'.nx σ H
  | .bk ρ s => ∀ G σ Z' H, Φ G → VI G Z' H σ ρ s → Same Z Z' → D'.bk σ H
  | .ct ρ s => ∀ G σ Z' H, Φ G → VI G Z' H σ ρ s → Same Z Z' → D'.ct σ H
  | .rt d s => ∀ G v σ ρ Z' H, Φ G → VI G Z' H σ ρ s → Same Z Z' → Ψ G Z' H v d → D'.rt v H
  | .exc c fs ρ s => ∀ G σ, Φ G → ExOk G W σ ρ Z c fs s
  | .bad => False
def ROkW (Φ : Gf → Prop) (W : WX) (σ : L2.St) (ρ : En) (Z : Hp) {α : Type} (r : R α) (k : α → S → Prop) : Prop := match r with
  | .ok x s => k x s
  | .exc c fs s => ∀ G, Φ G → ExOk G W σ ρ Z c fs s
  | .bad => False
section
variable {Φ : Gf → Prop} {Ψ : Ret} {W : WX} {Z Z1 : Hp} {D1 : Ends} {G : Gf}
theorem SOkW.up {r : SR} (z : Same Z Z1) (h : SOkW Φ Ψ W Z D1 r) : SOkW Φ Ψ W Z1 D1 r := by
  cases r with
  | nx ρ s => exact fun G σ Z' H hG I z1 => h G σ Z' H hG I (z.trans z1)
  | bk ρ s => exact fun G σ Z' H hG I z1 => h G σ Z' H hG I (z.trans z1)
  | ct ρ s => exact fun G σ Z' H hG I z1 => h G σ Z' H hG I (z.trans z1)
  | rt d s => exact fun G v σ ρ Z' H hG I z1 => h G v σ ρ Z' H hG I (z.trans z1)
  | exc c fs ρ s => exact fun G σ hG => (h G σ hG).up z
  | bad => exact h
theorem ROkW.up {σ : L2.St} {ρ : En} {α : Type} {r : R α} {k k' : α → S → Prop} (z : Same Z Z1) (h : ROkW Φ W σ ρ Z r k) (w : ∀ x s, k x s → k' x s) : ROkW Φ W σ ρ Z1 r k' := by
  cases r with
  | ok x s => exact w x s h
  | exc c fs s => exact fun G hG => (h G hG).up z
  | bad => exact h
end
end Vv
namespace Vv
section
variable {G : Gf} {Z H : Hp} {σ : L2.St} {ρ : En} {s : S}
/-- one slot, one table -/
theorem TabsOk.one (K : TabsOk G) {T T' : Tab} (h : T ∈ G.tabs) (h' : T' ∈ G.tabs) (e : T.i = T'.i) : T = T' := by
  obtain ⟨a, ha⟩ := List.mem_iff_getElem?.mp h
  obtain ⟨b, hb⟩ := List.mem_iff_getElem?.mp h'
  have e1 : (G.tabs.map (·.i))[a]? = some T.i := by rw [List.getElem?_map, ha]; rfl
  have e2 : (G.tabs.map (·.i))[b]? = some T.i := by rw [List.getElem?_map, hb]; exact congrArg some e.symm
  have q := nodup_ix K.ix e1 e2
  subst q
  rw [ha] at hb
  exact Option.some.inj hb
theorem RowsOk.len {B : Tb} : ∀ {its : List Itm} {rows : List Rw}, RowsOk B Z its rows → its.length = rows.length
  | _, _, .nil => rfl
  | _, _, .d _ r => congrArg Nat.succ r.len
  | _, _, .l _ r => congrArg Nat.succ r.len
theorem RowsOk.at {B : Tb} : ∀ {its : List Itm} {rows : List Rw} {k : Nat} {ds : List D}, RowsOk B Z its rows → rows[k]? = some (.l ds) → ∃ a ws, its[k]? = some (.l a ws) ∧ Rps B Z ws ds
  | _, _, 0, _, .d _ _, e => by cases e
  | _, _, 0, _, .l h _, e => by cases e; exact ⟨_, _, rfl, h⟩
  | _, _, k + 1, _, .d _ r, e => r.at (k := k) e
  | _, _, k + 1, _, .l _ r, e => r.at (k := k) e
theorem RowsOk.atI {B : Tb} : ∀ {its : List Itm} {rows : List Rw} {k : Nat} {x : Itm}, RowsOk B Z its rows → its[k]? = some x → ∃ r, rows[k]? = some r
  | its, rows, k, x, r, e => by
    have h := (List.getElem?_eq_some_iff.mp e).1
    rw [r.len] at h
    exact ⟨rows[k], List.getElem?_eq_getElem h⟩
end
end Vv
namespace Vv
end Vv
namespace Vv
end Vv
namespace Vv
end Vv
namespace Vv
end Vv
namespace Vv
inductive RpsT (B : Tb) (Z : Hp) (p : Addr) : List V → List (Option D) → Prop
  | nil : RpsT B Z p [] []
  | val {v : V} {d : D} {vs : List V} {ds : List (Option D)} (h : Rp B Z v d) (r : RpsT B Z p vs ds) : RpsT B Z p (v :: vs) (some d :: ds)
  | tab {vs : List V} {ds : List (Option D)} (r : RpsT B Z p vs ds) : RpsT B Z p (.ref p :: vs) (none :: ds)
theorem RpsT.mono {B : Tb} {Z Z' : Hp} {p : Addr} (s : Same Z Z') : ∀ {vs : List V} {ds : List (Option D)}, RpsT B Z p vs ds → RpsT B Z' p vs ds
  | _, _, .nil => .nil
  | _, _, .val h r => .val (h.mono s) (r.mono s)
  | _, _, .tab r => .tab (r.mono s)
theorem RpsT.len {B : Tb} {Z : Hp} {p : Addr} : ∀ {vs : List V} {ds : List (Option D)}, RpsT B Z p vs ds → vs.length = ds.length
  | _, _, .nil => rfl
  | _, _, .val _ r => congrArg Nat.succ r.len
  | _, _, .tab r => congrArg Nat.succ r.len
theorem RpsT.at {B : Tb} {Z : Hp} {p : Addr} : ∀ {vs : List V} {ds : List (Option D)} {k : Nat} {d : D}, RpsT B Z p vs ds → ds[k]? = some (some d) → ∃ v, vs[k]? = some v ∧ Rp B Z v d
  | _, _, 0, _, .val h _, e => by cases e; exact ⟨_, rfl, h⟩
  | _, _, 0, _, .tab _, e => by cases e
  | _, _, k + 1, _, .val _ r, e => r.at (k := k) e
  | _, _, k + 1, _, .tab r, e => r.at (k := k) e
end Vv
namespace Vv
end Vv
namespace Vv
end Vv
namespace Vv
end Vv
namespace Vv
end Vv
namespace Vv
end Vv
section
variable {prog : Program} {w : World} {A : Around} {E : Value → Shared → Prop} {s : Shared}
theorem callType_own {T newId initId : String} {Bn Bi : Builtin} {args : List Value} {Q Q₁ : Value → Shared → Prop} (ft : TypeCalled T newId initId)
    (hct : checkTypeCall T ⟨args, []⟩ = pure ()) (hcn : checkBuiltinCall newId ⟨.type T :: args, []⟩ = pure ())
    (entryN : entryFor table newId = some Bn) (entryI : entryFor table initId = some Bi)
    (g : wpAny (model prog w) A.in1.in1 (Bn ⟨.type T :: args, []⟩) (fun fin s' => ∃ v, fin = .done (.ret v) ∧ Q₁ v s') E s)
    (hnext : ∀ obj s₁, Q₁ obj s₁ → s₁.TypeIs obj T ∧ argsOk initId ⟨obj :: args, []⟩ ∧ ∃ Si, Meets (Bi ⟨obj :: args, []⟩) Si ∧ Si A.in1 (wants (fun r s₂ => r = .none ∧ Q obj s₂) E) s₁) :
    wpAny (model prog w) A (call (.type T) args) Q E s := by
  obtain ⟨c, tl, hmro⟩ := ft.mro
  have hmade := ft.made
  have hsub := ft.sub
  refine wpAny_call (codeAny_of_tree ?_)
  show wpAny _ _ (callAny (.type T) _) _ _ _
  refine wpAny_pure ⟨Code.quiet_builtin _ (by decide +kernel), codeAny_builtin F.entry_type_call ?_⟩
  rw [Around.under_plain (weight_type_call_type T args []) (units_type_call_type T args [])]
  have h1 := ft.notType
  have h2 := ft.canCreate
  have g' := wpAny_mono g (Q' := fun fin s' => match fin with | .done f => wants Q₁ E (.ok f) s' | .again c' => c'.quiet = true ∧ codeAny (model prog w) A.in1 c' (wants Q₁ E) s') (E' := E) (fun fin s' h' => by obtain ⟨v, rfl, hv⟩ := h'; exact hv) fun _ _ x => x
  repeat (any_goals (first | assumption | wp_step))
  refine codeAny_mono (codeAny_call_builtin ft.plain entryN (wpAny_of_eq hcn g')) fun r s₁ hr => ?_
  cases r with
  | error e => exact hr
  | ok fl =>
    cases fl with
    | ret obj =>
      obtain ⟨hT, hok, Si, gi, hsi⟩ := hnext _ _ hr
      have hli := ft.init.lookup
      have hbi := ft.init.bind obj
      repeat (any_goals (first | assumption | wp_step))
      refine codeAny_mono (codeAny_call_builtin ft.init.plain entryI (ft.init.check _ _ _ _ _ _ _ _ hT hok (gi prog w A.in1 _ s₁ hsi))) fun r₂ s₂ hr₂ => ?_
      cases r₂ with
      | error e => exact hr₂
      | ok fl₂ =>
        cases fl₂ with
        | ret r =>
          obtain ⟨rfl, hq⟩ := hr₂
          repeat (any_goals (first | assumption | wp_step))
        | _ => exact hr₂.elim
    | _ => exact hr.elim
end
namespace Vv
end Vv
namespace Vv
end Vv
namespace Pw
open PySem PySem.Spec
open PySem.Builtin.Itertools
theorem mro_ : mroOf (.type "itertools.pairwise") = pure [.type "itertools.pairwise", .type "object"] := by rw [mroOf_type]; kernel_rfl
theorem lookup_new : typeLookup (.type "itertools.pairwise") "__new__" = pure (some (.builtin "itertools.pairwise.__new__")) := by rw [typeLookup_type, builtinLookup_eq_fast]; kernel_rfl
theorem sub_ : isSubtype (.type "itertools.pairwise") (.type "itertools.pairwise") = pure true := by rw [isSubtype_type]; kernel_rfl
theorem slot_init : Slot "itertools.pairwise" "__init__" "object.__init__" :=
  .of (owner := "object") (n := "__init__") (by rw [typeLookup_type, builtinLookup_eq_fast]; kernel_rfl) (by decide +kernel) (by decide +kernel) (by decide +kernel) (by first | exact .inl (by decide +kernel) | exact .inr (by decide +kernel)) sub_
theorem called : TypeCalled "itertools.pairwise" "itertools.pairwise.__new__" "object.__init__" :=
  ⟨by decide +kernel, by decide +kernel, ⟨_, _, mro_⟩, madeBy_type mro_ lookup_new (by decide +kernel), by decide +kernel, sub_, slot_init⟩
theorem typeCall (a : Value) : checkTypeCall "itertools.pairwise" ⟨[a], []⟩ = pure () := by kernel_rfl
theorem newCall (a : Value) : checkBuiltinCall "itertools.pairwise.__new__" ⟨[.type "itertools.pairwise", a], []⟩ = pure () := by kernel_rfl
theorem entry_new : entryFor table "itertools.pairwise.__new__" = some Builtin.«itertools.pairwise.__new__» := entryFor_of_tree (by kernel_rfl)
theorem slot_iter : Slot "itertools.pairwise" "__iter__" "itertools.pairwise.__iter__" :=
  .of (owner := "itertools.pairwise") (n := "__iter__") (by rw [typeLookup_type, builtinLookup_eq_fast]; kernel_rfl) (by decide +kernel) (by decide +kernel) (by decide +kernel) (by first | exact .inl (by decide +kernel) | exact .inr (by decide +kernel)) sub_
theorem slot_next : Slot "itertools.pairwise" "__next__" "itertools.pairwise.__next__" :=
  .of (owner := "itertools.pairwise") (n := "__next__") (by rw [typeLookup_type, builtinLookup_eq_fast]; kernel_rfl) (by decide +kernel) (by decide +kernel) (by decide +kernel) (by first | exact .inl (by decide +kernel) | exact .inr (by decide +kernel)) sub_
theorem entry_iter : entryFor table "itertools.pairwise.__iter__" = some Builtin.«dict_keyiterator.__iter__» :=
  entryFor_alias (id' := "dict_keyiterator.__iter__") (by kernel_rfl) (by first | rfl | decide +kernel | (unfold String.splitOn; simp +decide [String.splitOnAux])) (by decide +kernel) (by kernel_rfl)
theorem entry_next : entryFor table "itertools.pairwise.__next__" = some Builtin.«itertools.pairwise.__next__» := entryFor_of_tree (by kernel_rfl)
theorem owner_ : Manifest.owners.lookup (String.ofList ['e', 's', 'i', 'w', 'r', 'i', 'a', 'p', '.', 's', 'l', 'o', 'o', 't', 'r', 'e', 't', 'i'].reverse) = some Manifest.sig_itertools_pairwise := by kernel_rfl
theorem args_iter (a : Value) : argsOk "itertools.pairwise.__iter__" ⟨[a], []⟩ := by
  unfold argsOk; rw [signature?_of (id := "itertools.pairwise.__iter__") (n := ['_', '_', 'r', 'e', 't', 'i', '_', '_']) (o := ['e', 's', 'i', 'w', 'r', 'i', 'a', 'p', '.', 's', 'l', 'o', 'o', 't', 'r', 'e', 't', 'i']) (by kernel_rfl) owner_]; kernel_rfl
theorem args_next (a : Value) : argsOk "itertools.pairwise.__next__" ⟨[a], []⟩ := by
  unfold argsOk; rw [signature?_of (id := "itertools.pairwise.__next__") (n := ['_', '_', 't', 'x', 'e', 'n', '_', '_']) (o := ['e', 's', 'i', 'w', 'r', 'i', 'a', 'p', '.', 's', 'l', 'o', 'o', 't', 'r', 'e', 't', 'i']) (by kernel_rfl) owner_]; kernel_rfl
theorem noDict : typeHasDict (.type "itertools.pairwise") = false := by decide +kernel
/-- a pairwise object: its tuple handed out, its iterator, the item before, the tuple that it keeps -/
abbrev IsP (h : Heap) (e : Addr) (own itv old : Value) (kept : Addr) : Prop := h.get? e = some { cls := .type "itertools.pairwise", dict := none, data := .fields #[own, .bool false, itv, old, .ref kept], slots := #[] }
abbrev IsK (h : Heap) (kept : Addr) : Prop := ∃ (a b : Value) (n : Nat), h.get? kept = some { cls := .type "tuple", dict := none, data := .seq #[a, b] n, slots := #[] }
end Pw
namespace Pw
open PySem PySem.Spec
open PySem.Builtin.Itertools
section
variable {prog : Program} {w : World} {A : Around} {E : Value → Shared → Prop} {s : Shared}
/-- what comes of pairwise(v), v's iterator made by the given steps -/
theorem new_ {v0 : Value} {P : Value → Shared → Prop} (hit : wpAny (model prog w) A (pyIter v0) P E s) :
    wpAny (model prog w) A (Builtin.«itertools.pairwise.__new__» ⟨[.type "itertools.pairwise", v0], []⟩) (fun fin s' => ∃ v, fin = .done (.ret v) ∧ ∃ it s1, P it s1 ∧ v = .ref (s1.heap.objs.size + 1) ∧ s' = { s1 with heap := (s1.heap.push { cls := .type "tuple", data := .seq #[.none, .none] }).push { cls := .type "itertools.pairwise", data := .fields #[.none, .bool false, it, rawInt 0, .ref s1.heap.objs.size] } }) E s := by
  have hsub := sub_
  have hd := noDict
  have q1 : ∀ {Q : Value → Shared → Prop}, (∀ v s', P v s' → Q v s') → wpAny (model prog w) A (pyIter ([v0].headD Value.none)) Q E s := fun q => wpAny_mono hit q fun _ _ x => x
  have es : ("itertools." ++ "pairwise" : String) = "itertools.pairwise" := by decide +kernel
  have fin : ∀ (v : Value) (s' : Shared), P v s' → wpAny (model prog w) A (holding [v] (newTuple [Value.none, Value.none]) >>= fun x => itNewRecord (Value.type "itertools.pairwise") (itOwnedFields ++ [v, itNothing, x]) >>= fun y => ret y) (fun fin s' => ∃ v, fin = .done (.ret v) ∧ ∃ it s1, P it s1 ∧ v = .ref (s1.heap.objs.size + 1) ∧ s' = { s1 with heap := (s1.heap.push { cls := .type "tuple", data := .seq #[.none, .none] }).push { cls := .type "itertools.pairwise", data := .fields #[.none, .bool false, it, rawInt 0, .ref s1.heap.objs.size] } }) E s' := fun v s' hv => by
    obtain ⟨hp, g, d, tk, os⟩ := s'
    refine wpAny_bind (wpAny_holding (wpAny_newTuple ?_))
    have hz : (hp.push { cls := .type "tuple", data := .seq #[.none, .none] }).objs.size = hp.objs.size + 1 := Heap.size_push ..
    wp_walk
    exact ⟨_, rfl, v, ⟨hp, g, d, tk, os⟩, hv, congrArg Value.ref hz, rfl⟩
  wp_walk using q1
  rw [es]
  refine wpAny_of_eq hsub ?_
  wp_walk using q1
  exact fin
end
end Pw
namespace Pw
open PySem PySem.Spec
open PySem.Builtin.Itertools
section
variable {prog : Program} {w : World} {A : Around} {E : Value → Shared → Prop} {s : Shared}
theorem call_ {v0 : Value} {P : Value → Shared → Prop} {Q : Value → Shared → Prop} (hit : wpAny (model prog w) A.in1.in1 (pyIter v0) P E s)
    (h : ∀ it s1 h', P it s1 → IsP h' (s1.heap.objs.size + 1) .none it (rawInt 0) s1.heap.objs.size → IsK h' s1.heap.objs.size → (∀ b o, s1.heap.get? b = some o → h'.get? b = some o) → Q (.ref (s1.heap.objs.size + 1)) { s1 with heap := h' }) :
    wpAny (model prog w) A (call (.type "itertools.pairwise") [v0]) Q E s := by
  refine callType_own (Q₁ := fun obj s₁ => s₁.TypeIs obj "itertools.pairwise" ∧ Q obj s₁) called (typeCall _) (newCall _) entry_new F.entry_object_init (wpAny_mono (new_ hit) (fun fin s' q => ?_) fun _ _ x => x) fun obj _ hq =>
    ⟨hq.1, F.args_object_init_2 obj _, _, object_init_meets called.init.lookup called.made (by decide), hq.1, rfl, hq.2⟩
  obtain ⟨v, rfl, it, s1, p, rfl, rfl⟩ := q
  have hz : (s1.heap.push { cls := .type "tuple", data := .seq #[.none, .none] }).objs.size = s1.heap.objs.size + 1 := Heap.size_push ..
  have at2 := Heap.get?_push_size (s1.heap.push { cls := .type "tuple", data := .seq #[.none, .none] }) (o := { cls := .type "itertools.pairwise", data := .fields #[.none, .bool false, it, rawInt 0, .ref s1.heap.objs.size] }) rfl
  rw [hz] at at2
  exact ⟨_, rfl, ⟨_, at2, rfl⟩, h it s1 _ p at2 ⟨_, _, _, Heap.get?_push_of_some _ (Heap.get?_push_size _ rfl)⟩ fun b o x => Heap.get?_push_of_some _ (Heap.get?_push_of_some _ x)⟩
theorem iter_ {e kept : Addr} {own itv old : Value} {Q : Value → Shared → Prop} (he : IsP s.heap e own itv old kept) (h : Q (.ref e) s) : wpAny (model prog w) A (pyIter (.ref e)) Q E s := by
  have hT : s.TypeIs (.ref e) "itertools.pairwise" := ⟨_, he, rfl⟩
  refine wpAny_pyIter_slot hT slot_iter (wpAny_call_entry slot_iter hT entry_iter ?_ (args_iter _))
  show wpAny _ _ (ret (.ref e)) _ _ s
  exact wpAny_pure ⟨_, rfl, "itertools.pairwise", _, hT, slot_next.lookup, h⟩
/-- what an iterator hands out -/
structure Raw (prog : Program) (w : World) (A : Around) (it : Addr) (fp : List Addr) (n : Nat) (P : Nat → Value → Prop) (St : Nat → Heap → Prop) : Prop where
  live : ∀ i h, St i h → ∃ o, h.get? it = some o
  frame : ∀ i h h', St i h → (∀ b ∈ fp, ∀ o, h.get? b = some o → h'.get? b = some o) → St i h'
  item : ∀ i (s : Shared) (Q : Option Value → Shared → Prop) (E : Value → Shared → Prop), i < n → St i s.heap → (∀ x h', P i x → St (i + 1) h' → Heap.SameBut it s.heap h' → Q (some x) { s with heap := h' }) → wpAny (model prog w) A (callSpecial? (.ref it) "__next__") Q E s
  done : ∀ (s : Shared) (Q : Option Value → Shared → Prop) (E : Value → Shared → Prop), St n s.heap → (∀ h' e, Heap.ExtBut it s.heap h' → (∃ o, h'.get? e = some o ∧ o.cls = .type "StopIteration") → E (.ref e) { s with heap := h' }) → wpAny (model prog w) A (callSpecial? (.ref it) "__next__") Q E s
/-- the item behind the first one -/
theorem next_item {e it kept : Addr} {fp : List Addr} {n i : Nat} {P : Nat → Value → Prop} {St : Nat → Heap → Prop} {old : Value} {Q : Option Value → Shared → Prop}
    (D : Raw prog w A.in1 it fp n P St) (he : IsP s.heap e .none (.ref it) old kept) (hk : IsK s.heap kept) (hold : (old == itNothing) = false) (hst : St i s.heap) (hlt : i < n) (hne : e ≠ it) (hef : e ∉ fp) (hki : kept ≠ it) (hkf : kept ∉ fp) (hke : kept ≠ e)
    (hQ : ∀ x h', P i x → IsP h' e (rawInt s.heap.objs.size) (.ref it) x kept → IsK h' kept → St (i + 1) h' → h'.get? s.heap.objs.size = some { cls := .type "tuple", data := .seq #[old, x] } → h'.objs.size = s.heap.objs.size + 1 →
      (∀ b o, b ≠ e → b ≠ it → b ≠ kept → s.heap.get? b = some o → h'.get? b = some o) → Q (some (.ref s.heap.objs.size)) { s with heap := h' }) :
    wpAny (model prog w) A (pyNext (.ref e)) Q E s := by
  have hT : s.TypeIs (.ref e) "itertools.pairwise" := ⟨_, he, rfl⟩
  unfold pyNext
  refine wpAny_bind (wpAny_attempt (wpAny_callSpecial?_slot (name := Str.ofString "__next__") hT slot_next (wpAny_call_entry slot_next hT entry_next ?_ (args_next _))))
  show wpAny _ _ (field (.ref e) 2 >>= _) _ _ s
  refine wpAny_bind (wpAny_field he rfl (x := .ref it) rfl ?_)
  show wpAny _ _ (if (Value.ref it == Value.none) = true then _ else _) _ _ s
  rw [if_neg (show ¬ ((Value.ref it == Value.none) = true) from Bool.false_ne_true)]
  show wpAny _ _ (field (.ref e) 3 >>= _) _ _ s
  refine wpAny_bind (wpAny_field he rfl (x := old) rfl ?_)
  show wpAny _ _ (if (old == itNothing) = true then _ else _) _ _ s
  rw [hold, if_neg Bool.false_ne_true]
  show wpAny _ _ (field (.ref e) 3 >>= _) _ _ s
  refine wpAny_bind (wpAny_field he rfl (x := old) rfl ?_)
  refine wpAny_bind (wpAny_holding (wpAny_tryCatch (wpAny_bind (D.item i s _ _ hlt hst fun x h₁ hPx hit₁ hs₁ => wpAny_pure ?_))))
  replace hs₁ : Heap.SameBut it s.heap h₁ := hs₁
  have he₁ : IsP h₁ e .none (.ref it) old kept := (hs₁.2 e hne).trans he
  obtain ⟨k1, k2, kn, hk⟩ := hk
  have hk₁ : h₁.get? kept = some { cls := .type "tuple", dict := none, data := .seq #[k1, k2] kn, slots := #[] } := (hs₁.2 kept hki).trans hk
  refine wpAny_bind (wpAny_holding (wpAny_newTuple ?_))
  have hsz : h₁.objs.size = s.heap.objs.size := hs₁.1
  have he₂ : IsP (h₁.push { cls := .type "tuple", data := .seq #[old, x] }) e .none (.ref it) old kept := Heap.get?_push_of_some _ he₁
  have hk₂ := Heap.get?_push_of_some { cls := .type "tuple", data := .seq #[old, x] } hk₁
  have hT₂ : (h₁.push { cls := .type "tuple", data := .seq #[old, x] }).get? s.heap.objs.size = some { cls := .type "tuple", data := .seq #[old, x] } := by rw [← hsz]; exact Heap.get?_push_size _ rfl
  have hz₂ : (h₁.push { cls := .type "tuple", data := .seq #[old, x] }).objs.size = s.heap.objs.size + 1 := by rw [Heap.size_push, hsz]
  have hst₂ : St (i + 1) (h₁.push { cls := .type "tuple", data := .seq #[old, x] }) := D.frame _ _ _ hit₁ fun b hb o y => Heap.get?_push_of_some _ y
  have kp₂ : ∀ b o, b ≠ it → s.heap.get? b = some o → (h₁.push { cls := .type "tuple", data := .seq #[old, x] }).get? b = some o := fun b o hb y => Heap.get?_push_of_some _ ((hs₁.2 b hb).trans y)
  rw [hsz]
  generalize h₁.push { cls := .type "tuple", data := .seq #[old, x] } = h₂ at he₂ hk₂ hT₂ hz₂ hst₂ kp₂ ⊢
  show wpAny _ _ _ _ _ ({ s with heap := h₂ } : Shared)
  clear he₁ hk₁ hit₁ hs₁ hsz h₁
  have eL : e < s.heap.objs.size := Heap.lt_size he
  have kL : kept < s.heap.objs.size := Heap.lt_size hk
  refine wpAny_bind ?_
  unfold itOwnedIsFree
  refine wpAny_bind (wpAny_field he₂ rfl (x := .none) rfl (wpAny_pure ?_))
  simp only [if_true]
  refine wpAny_bind (wpAny_rule ?_)
  refine wpAny_bind (wpAny_field he₂ rfl (x := .ref kept) rfl ?_)
  refine wpAny_bind (wpAny_bind (wpAny_seqItems hk₂ rfl (wpAny_pure ?_)))
  refine wpAny_bind (wpAny_updateSeq hk₂ rfl ?_)
  have hs₃ : Heap.SameBut kept h₂ (h₂.update kept (Obj.mapSeq fun _ => #[old, x])) := Heap.SameBut.update ..
  have hk₃ : IsK (h₂.update kept (Obj.mapSeq fun _ => #[old, x])) kept := ⟨old, x, kn, Heap.get?_update_self _ hk₂ rfl⟩
  have he₃ : IsP (h₂.update kept (Obj.mapSeq fun _ => #[old, x])) e .none (.ref it) old kept := (hs₃.2 e (Ne.symm hke)).trans he₂
  show wpAny _ _ _ _ _ ({ s with heap := h₂.update kept (Obj.mapSeq fun _ => #[old, x]) } : Shared)
  generalize h₂.update kept (Obj.mapSeq fun _ => #[old, x]) = h₃ at hs₃ hk₃ he₃ ⊢
  refine wpAny_bind ?_
  unfold itOwnedHandOut
  refine wpAny_bind (wpAny_setField_rec he₃ (by simp) fun h₄ he₄ hs₄ => ?_)
  replace hs₄ : Heap.SameBut e h₃ h₄ := hs₄
  replace he₄ : IsP h₄ e (rawInt s.heap.objs.size) (.ref it) old kept := he₄
  refine wpAny_setField_rec he₄ (by simp) fun h₅ he₅ hs₅ => ?_
  replace hs₅ : Heap.SameBut e h₄ h₅ := hs₅
  replace he₅ : IsP h₅ e (rawInt s.heap.objs.size) (.ref it) old kept := he₅
  refine wpAny_bind (wpAny_setField_rec he₅ (by simp) fun h₆ he₆ hs₆ => ?_)
  replace hs₆ : Heap.SameBut e h₅ h₆ := hs₆
  replace he₆ : IsP h₆ e (rawInt s.heap.objs.size) (.ref it) x kept := he₆
  refine wpAny_bind (wpAny_letGo ?_)
  have up : ∀ b o, b ≠ e → b ≠ kept → h₂.get? b = some o → h₆.get? b = some o := fun b o h1 h2 y => (hs₆.2 b h1).trans ((hs₅.2 b h1).trans ((hs₄.2 b h1).trans ((hs₃.2 b h2).trans y)))
  refine wpAny_pure ⟨_, rfl, wpAny_pure (hQ x h₆ hPx he₆ ?_ ?_ ?_ ?_ ?_)⟩
  · obtain ⟨a, b, n, q⟩ := hk₃
    exact ⟨a, b, n, (hs₆.2 kept hke).trans ((hs₅.2 kept hke).trans ((hs₄.2 kept hke).trans q))⟩
  · exact D.frame _ _ _ hst₂ fun b hb o y => up b o (fun z => hef (z ▸ hb)) (fun z => hkf (z ▸ hb)) y
  · exact up _ _ (Nat.ne_of_gt eL) (Nat.ne_of_gt kL) hT₂
  · rw [hs₆.1, hs₅.1, hs₄.1, hs₃.1, hz₂]
  · exact fun b o h1 h2 h3 y => up b o h1 h3 (kp₂ b o h2 y)
/-- the first item: two are drawn -/
theorem next_first {e it kept : Addr} {fp : List Addr} {n : Nat} {P : Nat → Value → Prop} {St : Nat → Heap → Prop} {Q : Option Value → Shared → Prop}
    (D : Raw prog w A.in1 it fp n P St) (he : IsP s.heap e .none (.ref it) itNothing kept) (hk : IsK s.heap kept) (hst : St 0 s.heap) (hlt : 1 < n) (hne : e ≠ it) (hef : e ∉ fp) (hki : kept ≠ it) (hkf : kept ∉ fp) (hke : kept ≠ e)
    (hQ : ∀ x0 x h', P 0 x0 → P 1 x → IsP h' e (rawInt s.heap.objs.size) (.ref it) x kept → IsK h' kept → St 2 h' → h'.get? s.heap.objs.size = some { cls := .type "tuple", data := .seq #[x0, x] } → h'.objs.size = s.heap.objs.size + 1 →
      (∀ b o, b ≠ e → b ≠ it → b ≠ kept → s.heap.get? b = some o → h'.get? b = some o) → Q (some (.ref s.heap.objs.size)) { s with heap := h' }) :
    wpAny (model prog w) A (pyNext (.ref e)) Q E s := by
  have hT : s.TypeIs (.ref e) "itertools.pairwise" := ⟨_, he, rfl⟩
  unfold pyNext
  refine wpAny_bind (wpAny_attempt (wpAny_callSpecial?_slot (name := Str.ofString "__next__") hT slot_next (wpAny_call_entry slot_next hT entry_next ?_ (args_next _))))
  show wpAny _ _ (field (.ref e) 2 >>= _) _ _ s
  refine wpAny_bind (wpAny_field he rfl (x := .ref it) rfl ?_)
  show wpAny _ _ (if (Value.ref it == Value.none) = true then _ else _) _ _ s
  rw [if_neg (show ¬ ((Value.ref it == Value.none) = true) from Bool.false_ne_true)]
  show wpAny _ _ (field (.ref e) 3 >>= _) _ _ s
  refine wpAny_bind (wpAny_field he rfl (x := itNothing) rfl ?_)
  show wpAny _ _ (if (itNothing == itNothing) = true then _ else _) _ _ s
  rw [if_pos (show (itNothing == itNothing) = true from rfl)]
  refine wpAny_bind (wpAny_rule ?_)
  refine wpAny_bind (wpAny_tryCatch (wpAny_bind (D.item 0 s _ _ (by omega) hst fun x0 g₁ hP0 hit₀ hs₀ => wpAny_pure ?_)))
  replace hs₀ : Heap.SameBut it s.heap g₁ := hs₀
  have he₀ : IsP g₁ e .none (.ref it) itNothing kept := (hs₀.2 e hne).trans he
  refine wpAny_bind (wpAny_setField_rec he₀ (by simp) fun g₂ he₀' hs₀' => ?_)
  replace hs₀' : Heap.SameBut e g₁ g₂ := hs₀'
  replace he₀' : IsP g₂ e .none (.ref it) x0 kept := he₀'
  refine wpAny_bind (wpAny_field he₀' rfl (x := .ref it) rfl ?_)
  show wpAny _ _ (if (Value.ref it == Value.none) = true then _ else _) _ _ _
  rw [if_neg (show ¬ ((Value.ref it == Value.none) = true) from Bool.false_ne_true)]
  have hst' : St (0 + 1) g₂ := D.frame _ _ _ hit₀ fun b hb o y => (hs₀'.2 b (fun z => hef (z ▸ hb))).trans y
  have hk' : IsK g₂ kept := by
    obtain ⟨a, b, m, q⟩ := hk
    exact ⟨a, b, m, (hs₀'.2 kept hke).trans ((hs₀.2 kept hki).trans q)⟩
  have hsz0 : g₂.objs.size = s.heap.objs.size := hs₀'.1.trans hs₀.1
  have hQ' : ∀ x h', P 1 x → IsP h' e (rawInt g₂.objs.size) (.ref it) x kept → IsK h' kept → St 2 h' → h'.get? g₂.objs.size = some { cls := .type "tuple", data := .seq #[x0, x] } → h'.objs.size = g₂.objs.size + 1 →
      (∀ b o, b ≠ e → b ≠ it → b ≠ kept → g₂.get? b = some o → h'.get? b = some o) → Q (some (.ref g₂.objs.size)) { s with heap := h' } := by
    rw [hsz0]
    exact fun x h' a1 a2 a3 a4 a5 a6 a7 => hQ x0 x h' hP0 a1 a2 a3 a4 a5 a6 fun b o b1 b2 b3 y => a7 b o b1 b2 b3 ((hs₀'.2 b b1).trans ((hs₀.2 b b2).trans y))
  show wpAny _ _ _ _ _ ({ s with heap := g₂ } : Shared)
  clear hsz0 he₀ hs₀ hs₀' hit₀ hP0 hQ hst he hk hT
  have he' := he₀'
  clear he₀'
  revert hQ' hst' hk' he'
  generalize hs' : ({ s with heap := g₂ } : Shared) = s'
  have e1 : g₂ = s'.heap := by rw [← hs']
  have e2 : ∀ h', ({ s with heap := h' } : Shared) = { s' with heap := h' } := fun h' => by rw [← hs']
  simp only [e2]
  rw [e1]
  clear e1 e2 hs'
  intro hst' hk' hQ' he'
  refine wpAny_bind (wpAny_field he' rfl (x := x0) rfl ?_)
  refine wpAny_bind (wpAny_holding (wpAny_tryCatch (wpAny_bind (D.item 1 s' _ _ hlt hst' fun x h₁ hPx hit₁ hs₁ => wpAny_pure ?_))))
  replace hs₁ : Heap.SameBut it s'.heap h₁ := hs₁
  have he₁ : IsP h₁ e .none (.ref it) x0 kept := (hs₁.2 e hne).trans he'
  obtain ⟨k1, k2, kn, hk⟩ := hk'
  have hk₁ : h₁.get? kept = some { cls := .type "tuple", dict := none, data := .seq #[k1, k2] kn, slots := #[] } := (hs₁.2 kept hki).trans hk
  refine wpAny_bind (wpAny_holding (wpAny_newTuple ?_))
  have hsz : h₁.objs.size = s'.heap.objs.size := hs₁.1
  have he₂ : IsP (h₁.push { cls := .type "tuple", data := .seq #[x0, x] }) e .none (.ref it) x0 kept := Heap.get?_push_of_some _ he₁
  have hk₂ := Heap.get?_push_of_some { cls := .type "tuple", data := .seq #[x0, x] } hk₁
  have hT₂ : (h₁.push { cls := .type "tuple", data := .seq #[x0, x] }).get? s'.heap.objs.size = some { cls := .type "tuple", data := .seq #[x0, x] } := by rw [← hsz]; exact Heap.get?_push_size _ rfl
  have hz₂ : (h₁.push { cls := .type "tuple", data := .seq #[x0, x] }).objs.size = s'.heap.objs.size + 1 := by rw [Heap.size_push, hsz]
  have hst₂ : St (1 + 1) (h₁.push { cls := .type "tuple", data := .seq #[x0, x] }) := D.frame _ _ _ hit₁ fun b hb o y => Heap.get?_push_of_some _ y
  have kp₂ : ∀ b o, b ≠ it → s'.heap.get? b = some o → (h₁.push { cls := .type "tuple", data := .seq #[x0, x] }).get? b = some o := fun b o hb y => Heap.get?_push_of_some _ ((hs₁.2 b hb).trans y)
  rw [hsz]
  generalize h₁.push { cls := .type "tuple", data := .seq #[x0, x] } = h₂ at he₂ hk₂ hT₂ hz₂ hst₂ kp₂ ⊢
  show wpAny _ _ _ _ _ ({ s' with heap := h₂ } : Shared)
  clear he₁ hk₁ hit₁ hs₁ hsz h₁
  have eL : e < s'.heap.objs.size := Heap.lt_size he'
  have kL : kept < s'.heap.objs.size := Heap.lt_size hk
  refine wpAny_bind ?_
  unfold itOwnedIsFree
  refine wpAny_bind (wpAny_field he₂ rfl (x := .none) rfl (wpAny_pure ?_))
  simp only [if_true]
  refine wpAny_bind (wpAny_rule ?_)
  refine wpAny_bind (wpAny_field he₂ rfl (x := .ref kept) rfl ?_)
  refine wpAny_bind (wpAny_bind (wpAny_seqItems hk₂ rfl (wpAny_pure ?_)))
  refine wpAny_bind (wpAny_updateSeq hk₂ rfl ?_)
  have hs₃ : Heap.SameBut kept h₂ (h₂.update kept (Obj.mapSeq fun _ => #[x0, x])) := Heap.SameBut.update ..
  have hk₃ : IsK (h₂.update kept (Obj.mapSeq fun _ => #[x0, x])) kept := ⟨x0, x, kn, Heap.get?_update_self _ hk₂ rfl⟩
  have he₃ : IsP (h₂.update kept (Obj.mapSeq fun _ => #[x0, x])) e .none (.ref it) x0 kept := (hs₃.2 e (Ne.symm hke)).trans he₂
  show wpAny _ _ _ _ _ ({ s' with heap := h₂.update kept (Obj.mapSeq fun _ => #[x0, x]) } : Shared)
  generalize h₂.update kept (Obj.mapSeq fun _ => #[x0, x]) = h₃ at hs₃ hk₃ he₃ ⊢
  refine wpAny_bind ?_
  unfold itOwnedHandOut
  refine wpAny_bind (wpAny_setField_rec he₃ (by simp) fun h₄ he₄ hs₄ => ?_)
  replace hs₄ : Heap.SameBut e h₃ h₄ := hs₄
  replace he₄ : IsP h₄ e (rawInt s'.heap.objs.size) (.ref it) x0 kept := he₄
  refine wpAny_setField_rec he₄ (by simp) fun h₅ he₅ hs₅ => ?_
  replace hs₅ : Heap.SameBut e h₄ h₅ := hs₅
  replace he₅ : IsP h₅ e (rawInt s'.heap.objs.size) (.ref it) x0 kept := he₅
  refine wpAny_bind (wpAny_setField_rec he₅ (by simp) fun h₆ he₆ hs₆ => ?_)
  replace hs₆ : Heap.SameBut e h₅ h₆ := hs₆
  replace he₆ : IsP h₆ e (rawInt s'.heap.objs.size) (.ref it) x kept := he₆
  refine wpAny_bind (wpAny_letGo ?_)
  have up : ∀ b o, b ≠ e → b ≠ kept → h₂.get? b = some o → h₆.get? b = some o := fun b o h1 h2 y => (hs₆.2 b h1).trans ((hs₅.2 b h1).trans ((hs₄.2 b h1).trans ((hs₃.2 b h2).trans y)))
  refine wpAny_pure ⟨_, rfl, wpAny_pure (hQ' x h₆ hPx he₆ ?_ ?_ ?_ ?_ ?_)⟩
  · obtain ⟨a, b, n, q⟩ := hk₃
    exact ⟨a, b, n, (hs₆.2 kept hke).trans ((hs₅.2 kept hke).trans ((hs₄.2 kept hke).trans q))⟩
  · exact D.frame _ _ _ hst₂ fun b hb o y => up b o (fun z => hef (z ▸ hb)) (fun z => hkf (z ▸ hb)) y
  · exact up _ _ (Nat.ne_of_gt eL) (Nat.ne_of_gt kL) hT₂
  · rw [hs₆.1, hs₅.1, hs₄.1, hs₃.1, hz₂]
  · exact fun b o h1 h2 h3 y => up b o h1 h3 (kp₂ b o h2 y)
end
end Pw
namespace Pw
open PySem PySem.Spec
open PySem.Builtin.Itertools
section
variable {prog : Program} {w : World} {A : Around} {E : Value → Shared → Prop} {s : Shared}
/-- the end, the item before known -/
theorem next_end {e it kept : Addr} {fp : List Addr} {n : Nat} {P : Nat → Value → Prop} {St : Nat → Heap → Prop} {own old : Value} {Q : Option Value → Shared → Prop}
    (D : Raw prog w A.in1 it fp n P St) (he : IsP s.heap e own (.ref it) old kept) (hold : (old == itNothing) = false) (hst : St n s.heap) (hne : e ≠ it)
    (hQ : ∀ h', (∀ b o, b ≠ e → b ≠ it → s.heap.get? b = some o → h'.get? b = some o) → Q none { s with heap := h' }) :
    wpAny (model prog w) A (pyNext (.ref e)) Q E s := by
  have hT : s.TypeIs (.ref e) "itertools.pairwise" := ⟨_, he, rfl⟩
  unfold pyNext
  refine wpAny_bind (wpAny_attempt (wpAny_callSpecial?_slot (name := Str.ofString "__next__") hT slot_next (wpAny_call_entry slot_next hT entry_next ?_ (args_next _))))
  show wpAny _ _ (field (.ref e) 2 >>= _) _ _ s
  refine wpAny_bind (wpAny_field he rfl (x := .ref it) rfl ?_)
  show wpAny _ _ (if (Value.ref it == Value.none) = true then _ else _) _ _ s
  rw [if_neg (show ¬ ((Value.ref it == Value.none) = true) from Bool.false_ne_true)]
  show wpAny _ _ (field (.ref e) 3 >>= _) _ _ s
  refine wpAny_bind (wpAny_field he rfl (x := old) rfl ?_)
  show wpAny _ _ (if (old == itNothing) = true then _ else _) _ _ s
  rw [hold, if_neg Bool.false_ne_true]
  show wpAny _ _ (field (.ref e) 3 >>= _) _ _ s
  refine wpAny_bind (wpAny_field he rfl (x := old) rfl ?_)
  refine wpAny_bind (wpAny_holding (wpAny_tryCatch (wpAny_bind (D.done s _ _ hst fun h₁ x hx₁ hs₁ => ?_))))
  replace hx₁ : Heap.ExtBut it s.heap h₁ := hx₁
  have he₁ : IsP h₁ e own (.ref it) old kept := hx₁ e _ hne he
  refine wpAny_bind ?_
  refine wpAny_bind (wpAny_field he₁ rfl (x := old) rfl ?_)
  refine wpAny_bind (wpAny_setField_rec he₁ (by simp) fun h₂ he₂ hs₂ => ?_)
  replace hs₂ : Heap.SameBut e h₁ h₂ := hs₂
  replace he₂ : IsP h₂ e own .none old kept := he₂
  refine wpAny_bind (wpAny_setField_rec he₂ (by simp) fun h₃ he₃ hs₃ => ?_)
  replace hs₃ : Heap.SameBut e h₂ h₃ := hs₃
  refine wpAny_letGo (wpAny_throw ?_)
  obtain ⟨o, ho, hc⟩ := hs₁
  have xe : x ≠ e := fun z => by
    rw [z, he₁] at ho
    cases ho
    exact absurd (Value.type.inj hc) (by decide)
  refine wpAny_bind (wpAny_isInstance (T := "StopIteration") (b := true) ⟨o, (hs₃.2 x xe).trans ((hs₂.2 x xe).trans ho), hc⟩ isSubtype_stop ?_)
  exact wpAny_pure (hQ _ fun b o h1 h2 y => (hs₃.2 b h1).trans ((hs₂.2 b h1).trans (hx₁ b o h2 y)))
/-- the end at once: nothing is there -/
theorem next_none {e it kept : Addr} {fp : List Addr} {P : Nat → Value → Prop} {St : Nat → Heap → Prop} {own : Value} {Q : Option Value → Shared → Prop}
    (D : Raw prog w A.in1 it fp 0 P St) (he : IsP s.heap e own (.ref it) itNothing kept) (hst : St 0 s.heap) (hne : e ≠ it)
    (hQ : ∀ h', (∀ b o, b ≠ e → b ≠ it → s.heap.get? b = some o → h'.get? b = some o) → Q none { s with heap := h' }) :
    wpAny (model prog w) A (pyNext (.ref e)) Q E s := by
  have hT : s.TypeIs (.ref e) "itertools.pairwise" := ⟨_, he, rfl⟩
  unfold pyNext
  refine wpAny_bind (wpAny_attempt (wpAny_callSpecial?_slot (name := Str.ofString "__next__") hT slot_next (wpAny_call_entry slot_next hT entry_next ?_ (args_next _))))
  show wpAny _ _ (field (.ref e) 2 >>= _) _ _ s
  refine wpAny_bind (wpAny_field he rfl (x := .ref it) rfl ?_)
  show wpAny _ _ (if (Value.ref it == Value.none) = true then _ else _) _ _ s
  rw [if_neg (show ¬ ((Value.ref it == Value.none) = true) from Bool.false_ne_true)]
  show wpAny _ _ (field (.ref e) 3 >>= _) _ _ s
  refine wpAny_bind (wpAny_field he rfl (x := itNothing) rfl ?_)
  show wpAny _ _ (if (itNothing == itNothing) = true then _ else _) _ _ s
  rw [if_pos (show (itNothing == itNothing) = true from rfl)]
  refine wpAny_bind (wpAny_rule ?_)
  refine wpAny_bind (wpAny_tryCatch (wpAny_bind (D.done s _ _ hst fun h₁ x hx₁ hs₁ => ?_)))
  replace hx₁ : Heap.ExtBut it s.heap h₁ := hx₁
  have he₁ : IsP h₁ e own (.ref it) itNothing kept := hx₁ e _ hne he
  refine wpAny_bind ?_
  refine wpAny_bind (wpAny_field he₁ rfl (x := itNothing) rfl ?_)
  refine wpAny_bind (wpAny_setField_rec he₁ (by simp) fun h₂ he₂ hs₂ => ?_)
  replace hs₂ : Heap.SameBut e h₁ h₂ := hs₂
  replace he₂ : IsP h₂ e own .none itNothing kept := he₂
  refine wpAny_bind (wpAny_setField_rec he₂ (by simp) fun h₃ he₃ hs₃ => ?_)
  replace hs₃ : Heap.SameBut e h₂ h₃ := hs₃
  refine wpAny_letGo (wpAny_throw ?_)
  obtain ⟨o, ho, hc⟩ := hs₁
  have xe : x ≠ e := fun z => by
    rw [z, he₁] at ho
    cases ho
    exact absurd (Value.type.inj hc) (by decide)
  refine wpAny_bind (wpAny_isInstance (T := "StopIteration") (b := true) ⟨o, (hs₃.2 x xe).trans ((hs₂.2 x xe).trans ho), hc⟩ isSubtype_stop ?_)
  exact wpAny_pure (hQ _ fun b o h1 h2 y => (hs₃.2 b h1).trans ((hs₂.2 b h1).trans (hx₁ b o h2 y)))
/-- the end behind one item -/
theorem next_one {e it kept : Addr} {fp : List Addr} {P : Nat → Value → Prop} {St : Nat → Heap → Prop} {own : Value} {Q : Option Value → Shared → Prop}
    (D : Raw prog w A.in1 it fp 1 P St) (he : IsP s.heap e own (.ref it) itNothing kept) (hst : St 0 s.heap) (hne : e ≠ it) (hef : e ∉ fp)
    (hQ : ∀ h', (∀ b o, b ≠ e → b ≠ it → s.heap.get? b = some o → h'.get? b = some o) → Q none { s with heap := h' }) :
    wpAny (model prog w) A (pyNext (.ref e)) Q E s := by
  have hT : s.TypeIs (.ref e) "itertools.pairwise" := ⟨_, he, rfl⟩
  unfold pyNext
  refine wpAny_bind (wpAny_attempt (wpAny_callSpecial?_slot (name := Str.ofString "__next__") hT slot_next (wpAny_call_entry slot_next hT entry_next ?_ (args_next _))))
  show wpAny _ _ (field (.ref e) 2 >>= _) _ _ s
  refine wpAny_bind (wpAny_field he rfl (x := .ref it) rfl ?_)
  show wpAny _ _ (if (Value.ref it == Value.none) = true then _ else _) _ _ s
  rw [if_neg (show ¬ ((Value.ref it == Value.none) = true) from Bool.false_ne_true)]
  show wpAny _ _ (field (.ref e) 3 >>= _) _ _ s
  refine wpAny_bind (wpAny_field he rfl (x := itNothing) rfl ?_)
  show wpAny _ _ (if (itNothing == itNothing) = true then _ else _) _ _ s
  rw [if_pos (show (itNothing == itNothing) = true from rfl)]
  refine wpAny_bind (wpAny_rule ?_)
  refine wpAny_bind (wpAny_tryCatch (wpAny_bind (D.item 0 s _ _ (by omega) hst fun x0 g₁ hP0 hit₀ hs₀ => wpAny_pure ?_)))
  replace hs₀ : Heap.SameBut it s.heap g₁ := hs₀
  have he₀ : IsP g₁ e own (.ref it) itNothing kept := (hs₀.2 e hne).trans he
  refine wpAny_bind (wpAny_setField_rec he₀ (by simp) fun g₂ he₀' hs₀' => ?_)
  replace hs₀' : Heap.SameBut e g₁ g₂ := hs₀'
  replace he₀' : IsP g₂ e own (.ref it) x0 kept := he₀'
  refine wpAny_bind (wpAny_field he₀' rfl (x := .ref it) rfl ?_)
  show wpAny _ _ (if (Value.ref it == Value.none) = true then _ else _) _ _ _
  rw [if_neg (show ¬ ((Value.ref it == Value.none) = true) from Bool.false_ne_true)]
  have hst' : St (0 + 1) g₂ := D.frame _ _ _ hit₀ fun b hb o y => (hs₀'.2 b (fun z => hef (z ▸ hb))).trans y
  refine wpAny_bind (wpAny_field he₀' rfl (x := x0) rfl ?_)
  refine wpAny_bind (wpAny_holding (wpAny_tryCatch (wpAny_bind (D.done _ _ _ hst' fun h₁ x hx₁ hs₁ => ?_))))
  replace hx₁ : Heap.ExtBut it g₂ h₁ := hx₁
  have he₁ : IsP h₁ e own (.ref it) x0 kept := hx₁ e _ hne he₀'
  refine wpAny_bind ?_
  refine wpAny_bind (wpAny_field he₁ rfl (x := x0) rfl ?_)
  refine wpAny_bind (wpAny_setField_rec he₁ (by simp) fun h₂ he₂ hs₂ => ?_)
  replace hs₂ : Heap.SameBut e h₁ h₂ := hs₂
  replace he₂ : IsP h₂ e own .none x0 kept := he₂
  refine wpAny_bind (wpAny_setField_rec he₂ (by simp) fun h₃ he₃ hs₃ => ?_)
  replace hs₃ : Heap.SameBut e h₂ h₃ := hs₃
  refine wpAny_letGo (wpAny_throw ?_)
  obtain ⟨o, ho, hc⟩ := hs₁
  have xe : x ≠ e := fun z => by
    rw [z, he₁] at ho
    cases ho
    exact absurd (Value.type.inj hc) (by decide)
  refine wpAny_bind (wpAny_isInstance (T := "StopIteration") (b := true) ⟨o, (hs₃.2 x xe).trans ((hs₂.2 x xe).trans ho), hc⟩ isSubtype_stop ?_)
  exact wpAny_pure (hQ _ fun b o h1 h2 y => (hs₃.2 b h1).trans ((hs₂.2 b h1).trans (hx₁ b o h2 ((hs₀'.2 b h1).trans ((hs₀.2 b h2).trans y)))))
/-- ahead of the store -/
theorem go_ {elts : List Expr} {x1 : Nat} {pos : Pos} {e a kept : Addr} {itv old : Value} {Q : Unit → Shared → Prop} (he : IsP s.heap e (rawInt a) itv old kept) (hQ : ∀ h', IsP h' e .none itv old kept → Heap.SameBut e s.heap h' → Q () { s with heap := h' }) :
    wpAny (model prog w) A (letOwnedTupleGo (.Tuple elts x1 pos) (.ref e) (.ref a)) Q E s := by
  unfold letOwnedTupleGo
  refine wpAny_bind (wpAny_load he ?_)
  show wpAny _ A (if (["enumerate", "zip", "dict_itemiterator", "dict_reverseitemiterator", "odict_iterator", "itertools.zip_longest", "itertools.pairwise"].contains "itertools.pairwise" && (#[rawInt a, .bool false, itv, old, .ref kept] : Array Value)[0]? == some (rawInt a)) = true then _ else _) Q E s
  rw [if_pos (by simp)]
  refine wpAny_bind (wpAny_rule ?_)
  show wpAny _ A (setField (.ref e) 0 .none) Q E s
  exact wpAny_setField_rec he (by simp) fun h' he' hs' => hQ h' he' hs'
end
end Pw
namespace Pw
open PySem PySem.Spec
section
variable {prog : Program} {w : World} {A : Around} {E : Value → Shared → Prop} {s : Shared}
theorem tup_item {it t : Addr} {i : Nat} {items : Array Value} {x : Value} {Q : Option Value → Shared → Prop} (hit : s.heap.IsTupleIter it t i) (ht : s.heap.IsTuple t items) (hx : items[i]? = some x)
    (hQ : ∀ h', h'.IsTupleIter it t (i + 1) → Heap.SameBut it s.heap h' → Q (some x) { s with heap := h' }) : wpAny (model prog w) A (callSpecial? (.ref it) "__next__") Q E s := by
  obtain ⟨o, ho, hc, hd⟩ := id hit
  obtain ⟨ol, hol, _, nl, hdl⟩ := ht
  refine wpAny_callSpecial?_slot (name := Str.ofString "__next__") hit.typeIs F.slot_tuple_iterator_next (wpAny_call_entry F.slot_tuple_iterator_next hit.typeIs F.entry_tuple_iterator_next ?_ (F.args_tuple_iterator_next_1 _))
  show wpAny _ _ (field (.ref it) 0 >>= _) _ _ s
  refine wpAny_bind (wpAny_field ho hd (x := .ref t) rfl ?_)
  show wpAny _ _ (if (Value.ref t == Value.none) = true then _ else _) _ _ s
  rw [if_neg (show ¬ ((Value.ref t == Value.none) = true) from Bool.false_ne_true)]
  show wpAny _ _ (field (.ref it) 1 >>= _) _ _ s
  refine wpAny_bind (wpAny_field ho hd (x := .int i 0) rfl ?_)
  show wpAny _ _ (seqItems? (.ref t) >>= _) _ _ s
  refine wpAny_bind (wpAny_seqItems hol hdl ?_)
  simp only [Int.toNat_natCast, hx]
  refine wpAny_bind (wpAny_setField ho hd (by simp) (wpAny_pure ⟨x, rfl, hQ _ ?_ (Heap.SameBut.update ..)⟩))
  exact ⟨_, Heap.get?_update_self _ ho (Obj.isFreed_of_fields (Obj.data_mapFields hd _)), (Obj.cls_mapFields ..).trans hc, by
    rw [Obj.data_mapFields hd]; simp [rawInt]⟩
theorem tup_end {it t : Addr} {i : Nat} {items : Array Value} {Q : Option Value → Shared → Prop} (hh : A.handled = none) (hit : s.heap.IsTupleIter it t i) (ht : s.heap.IsTuple t items) (hx : items[i]? = none)
    (hE : ∀ h' e, Heap.ExtBut it s.heap h' → (∃ o, h'.get? e = some o ∧ o.cls = .type "StopIteration") → E (.ref e) { s with heap := h' }) : wpAny (model prog w) A (callSpecial? (.ref it) "__next__") Q E s := by
  obtain ⟨o, ho, hc, hd⟩ := id hit
  obtain ⟨ol, hol, _, nl, hdl⟩ := ht
  refine wpAny_callSpecial?_slot (name := Str.ofString "__next__") hit.typeIs F.slot_tuple_iterator_next (wpAny_call_entry F.slot_tuple_iterator_next hit.typeIs F.entry_tuple_iterator_next ?_ (F.args_tuple_iterator_next_1 _))
  show wpAny _ _ (field (.ref it) 0 >>= _) _ _ s
  refine wpAny_bind (wpAny_field ho hd (x := .ref t) rfl ?_)
  show wpAny _ _ (if (Value.ref t == Value.none) = true then _ else _) _ _ s
  rw [if_neg (show ¬ ((Value.ref t == Value.none) = true) from Bool.false_ne_true)]
  show wpAny _ _ (field (.ref it) 1 >>= _) _ _ s
  refine wpAny_bind (wpAny_field ho hd (x := .int i 0) rfl ?_)
  show wpAny _ _ (seqItems? (.ref t) >>= _) _ _ s
  refine wpAny_bind (wpAny_seqItems hol hdl ?_)
  simp only [Int.toNat_natCast, hx]
  refine wpAny_bind (wpAny_rule (wpAny_bind (wpAny_setField ho hd (by simp) ?_)))
  show wpAny _ _ (newExc (.type "StopIteration") [] >>= _) _ _ _
  refine wpAny_bind ?_
  simp only [newExc, newTuple]
  refine wpAny_bind (wpAny_newObj_type ?_ (by size_fits))
  refine wpAny_bind (m := firstArgMember _ _) (wpAny_of_eq (a := Value.none) (by first | rfl | (simp only [firstArgMember]; rfl)) ?_)
  refine wpAny_newObj_type ?_ (by size_fits)
  simp only [raiseNew]
  refine wpAny_bind (wpAny_handled ?_)
  first | rw [show A.in1.handled = none from hh] | rw [hh]
  refine wpAny_bind (wpAny_pure (wpAny_throw ?_))
  exact hE _ _ (((Heap.SameBut.update ..).extBut.push _).push _) ⟨_, Heap.get?_push_size _ rfl, rfl⟩
theorem lst_item {it l : Addr} {i : Nat} {items : Array Value} {x : Value} {Q : Option Value → Shared → Prop} (hit : s.heap.IsListIter it l i) (hl : s.heap.IsList l items) (hx : items[i]? = some x)
    (hQ : ∀ h', h'.IsListIter it l (i + 1) → Heap.SameBut it s.heap h' → Q (some x) { s with heap := h' }) : wpAny (model prog w) A (callSpecial? (.ref it) "__next__") Q E s := by
  obtain ⟨o, ho, hc, hd⟩ := id hit
  obtain ⟨ol, hol, _, nl, hdl⟩ := hl
  refine wpAny_callSpecial?_slot (name := Str.ofString "__next__") hit.typeIs slot_listiter_next (wpAny_call_entry slot_listiter_next hit.typeIs entry_listiter_next ?_ (args_listiter_next _))
  show wpAny _ _ (field (.ref it) 0 >>= _) _ _ s
  refine wpAny_bind (wpAny_field ho hd (x := .ref l) rfl ?_)
  show wpAny _ _ (if (Value.ref l == Value.none) = true then _ else _) _ _ s
  rw [if_neg (show ¬ ((Value.ref l == Value.none) = true) from Bool.false_ne_true)]
  show wpAny _ _ (field (.ref it) 1 >>= _) _ _ s
  refine wpAny_bind (wpAny_field ho hd (x := .int i 0) rfl ?_)
  show wpAny _ _ (seqItems? (.ref l) >>= _) _ _ s
  refine wpAny_bind (wpAny_seqItems hol hdl ?_)
  simp only [Int.toNat_natCast, hx]
  refine wpAny_bind (wpAny_setField ho hd (by simp) (wpAny_pure ⟨x, rfl, hQ _ ?_ (Heap.SameBut.update ..)⟩))
  exact ⟨_, Heap.get?_update_self _ ho (Obj.isFreed_of_fields (Obj.data_mapFields hd _)), (Obj.cls_mapFields ..).trans hc, by
    rw [Obj.data_mapFields hd]; simp [rawInt]⟩
theorem lst_end {it l : Addr} {i : Nat} {items : Array Value} {Q : Option Value → Shared → Prop} (hh : A.handled = none) (hit : s.heap.IsListIter it l i) (hl : s.heap.IsList l items) (hx : items[i]? = none)
    (hE : ∀ h' e, Heap.ExtBut it s.heap h' → (∃ o, h'.get? e = some o ∧ o.cls = .type "StopIteration") → E (.ref e) { s with heap := h' }) : wpAny (model prog w) A (callSpecial? (.ref it) "__next__") Q E s := by
  obtain ⟨o, ho, hc, hd⟩ := id hit
  obtain ⟨ol, hol, _, nl, hdl⟩ := hl
  refine wpAny_callSpecial?_slot (name := Str.ofString "__next__") hit.typeIs slot_listiter_next (wpAny_call_entry slot_listiter_next hit.typeIs entry_listiter_next ?_ (args_listiter_next _))
  show wpAny _ _ (field (.ref it) 0 >>= _) _ _ s
  refine wpAny_bind (wpAny_field ho hd (x := .ref l) rfl ?_)
  show wpAny _ _ (if (Value.ref l == Value.none) = true then _ else _) _ _ s
  rw [if_neg (show ¬ ((Value.ref l == Value.none) = true) from Bool.false_ne_true)]
  show wpAny _ _ (field (.ref it) 1 >>= _) _ _ s
  refine wpAny_bind (wpAny_field ho hd (x := .int i 0) rfl ?_)
  show wpAny _ _ (seqItems? (.ref l) >>= _) _ _ s
  refine wpAny_bind (wpAny_seqItems hol hdl ?_)
  simp only [Int.toNat_natCast, hx]
  refine wpAny_bind (wpAny_rule (wpAny_bind (wpAny_setField ho hd (by simp) ?_)))
  show wpAny _ _ (newExc (.type "StopIteration") [] >>= _) _ _ _
  refine wpAny_bind ?_
  simp only [newExc, newTuple]
  refine wpAny_bind (wpAny_newObj_type ?_ (by size_fits))
  refine wpAny_bind (m := firstArgMember _ _) (wpAny_of_eq (a := Value.none) (by first | rfl | (simp only [firstArgMember]; rfl)) ?_)
  refine wpAny_newObj_type ?_ (by size_fits)
  simp only [raiseNew]
  refine wpAny_bind (wpAny_handled ?_)
  first | rw [show A.in1.handled = none from hh] | rw [hh]
  refine wpAny_bind (wpAny_pure (wpAny_throw ?_))
  exact hE _ _ (((Heap.SameBut.update ..).extBut.push _).push _) ⟨_, Heap.get?_push_size _ rfl, rfl⟩
end
theorem Raw.tuple {prog : Program} {w : World} {A : Around} (hh : A.handled = none) (it t : Addr) (hne : t ≠ it) (items : Array Value) : Raw prog w A it [it, t] items.size (fun i v => items[i]? = some v) (fun i h => h.IsTupleIter it t i ∧ h.IsTuple t items) where
  live := fun _ _ st => let ⟨o, ho, _⟩ := st.1; ⟨o, ho⟩
  frame := fun _ _ _ st hk => ⟨st.1.at fun o e => hk it (by simp) o e, st.2.at fun o e => hk t (by simp) o e⟩
  item := fun i s Q E hi st hQ => by
    refine tup_item st.1 st.2 (x := items[i]) (by simp [hi]) fun h' hit' hs' => ?_
    exact hQ _ h' (by simp [hi]) ⟨hit', st.2.extBut hs'.extBut hne⟩ hs'
  done := fun s Q E st hE => tup_end hh st.1 st.2 (by simp) hE
theorem Raw.list {prog : Program} {w : World} {A : Around} (hh : A.handled = none) (it l : Addr) (hne : l ≠ it) (items : Array Value) : Raw prog w A it [it, l] items.size (fun i v => items[i]? = some v) (fun i h => h.IsListIter it l i ∧ h.IsList l items) where
  live := fun _ _ st => let ⟨o, ho, _⟩ := st.1; ⟨o, ho⟩
  frame := fun _ _ _ st hk => ⟨st.1.at fun o e => hk it (by simp) o e, st.2.at fun o e => hk l (by simp) o e⟩
  item := fun i s Q E hi st hQ => by
    refine lst_item st.1 st.2 (x := items[i]) (by simp [hi]) fun h' hit' hs' => ?_
    exact hQ _ h' (by simp [hi]) ⟨hit', st.2.extBut hs'.extBut hne⟩ hs'
  done := fun s Q E st hE => lst_end hh st.1 st.2 (by simp) hE
end Pw
namespace Pw
open PySem PySem.Spec
open PySem.Builtin.Itertools
/-- a list's | a tuple's place and its iterator -/
def seqAt (lst : Bool) (h : Heap) (a : Addr) (its : Array Value) : Prop := if lst then h.IsList a its else h.IsTuple a its
def itAt (lst : Bool) (h : Heap) (it a : Addr) (i : Nat) : Prop := if lst then h.IsListIter it a i else h.IsTupleIter it a i
theorem Raw.seq {prog : Program} {w : World} {A : Around} (hh : A.handled = none) (lst : Bool) (it a : Addr) (hne : a ≠ it) (items : Array Value) : Raw prog w A it [it, a] items.size (fun i v => items[i]? = some v) (fun i h => itAt lst h it a i ∧ seqAt lst h a items) := by
  cases lst
  · exact Raw.tuple hh it a hne items
  · exact Raw.list hh it a hne items
theorem itAt.live {lst : Bool} {h : Heap} {it a : Addr} {i : Nat} (x : itAt lst h it a i) : ∃ o, h.get? it = some o ∧ ∀ v, o.data ≠ .cell v := by
  cases lst
  · obtain ⟨o, ho, hc, hd⟩ : h.IsTupleIter it a i := x
    exact ⟨o, ho, fun v q => by rw [hd] at q; cases q⟩
  · obtain ⟨o, ho, hc, hd⟩ : h.IsListIter it a i := x
    exact ⟨o, ho, fun v q => by rw [hd] at q; cases q⟩
theorem itAt.at {lst : Bool} {h h' : Heap} {it a : Addr} {i : Nat} (x : itAt lst h it a i) (k : ∀ o, h.get? it = some o → h'.get? it = some o) : itAt lst h' it a i := by
  cases lst
  · obtain ⟨o, ho, r⟩ : h.IsTupleIter it a i := x
    exact ⟨o, k o ho, r⟩
  · obtain ⟨o, ho, r⟩ : h.IsListIter it a i := x
    exact ⟨o, k o ho, r⟩
/-- where the items come from: S stands in the heap, R is known of each item -/
structure Src (P : Program) (w : World) (K : PySem.W.Frag) (lst : Bool) (a : Addr) (n : Nat) (xs : Nat → V) (R : Nat → Value → Prop) (S : Hp → Prop) : Prop where
  get : ∀ {X : Cx} {pins : List (Addr × Obj)} {σ : List (Option V)} {H : Hp} {s : Shared}, X.prog = P → X.w = w → X.K = K → Inv X pins σ H s → S H → ∃ its : Array Value, seqAt lst s.heap a its ∧ its.size = n ∧ ∀ i v, its[i]? = some v → R i v
  here : ∀ {X : Cx} {pins : List (Addr × Obj)} {σ : List (Option V)} {H : Hp} {s : Shared} {b : Addr}, X.prog = P → X.w = w → X.K = K → Inv X pins σ H s → S H → FpOk X pins H b → a ≠ b
  rel : ∀ i v, R i v → RelV (xs i) v
  old : ∀ i v, R i v → 0 < i → (v == itNothing) = false
def IpX (S : Hp → Prop) (n : Nat) (xs : Nat → V) : It :=
  ⟨fun i H => S H ∧ i + 1 < n, fun i H v H' => ∃ T, v = .ref T ∧ H T = none ∧ H' = L2.upd H T (.tup [xs i, xs (i + 1)]), fun i H => S H ∧ n ≤ i + 1⟩
theorem turn_pw {P : Program} {w : World} {K : PySem.W.Frag} {lst : Bool} {elts : List Expr} {kk : Nat} {tpos : Pos} {a : Addr} {n : Nat} {xs : Nat → V} {R : Nat → Value → Prop} {S : Hp → Prop} (C : Src P w K lst a n xs R S) (e it kept : Addr) :
    Turn P w K (.Tuple elts kk tpos) (IpX S n xs) [e, it, kept] e (fun i h => (∃ old, IsP h e .none (.ref it) old kept ∧ (i = 0 → old = itNothing) ∧ (0 < i → R i old ∧ i < n)) ∧ IsK h kept ∧ itAt lst h it a (if i = 0 then 0 else i + 1) ∧ e ≠ it ∧ kept ≠ it ∧ kept ≠ e) where
  mem := by simp
  obj := fun i h ⟨⟨old, he, _⟩, ⟨k1, k2, kn, hk⟩, hi, _⟩ b hb => by
    rcases (show b = e ∨ b = it ∨ b = kept by simpa using hb) with z | z | z
    · rw [z]; exact ⟨_, he, fun v q => nomatch q⟩
    · rw [z]; exact hi.live
    · rw [z]; exact ⟨_, hk, fun v q => nomatch q⟩
  keep := fun i h h' ⟨⟨old, he, h0, h1⟩, ⟨k1, k2, kn, hk⟩, hi, ne⟩ k => ⟨⟨old, k e (by simp) _ he, h0, h1⟩, ⟨k1, k2, kn, k kept (by simp) _ hk⟩, hi.at fun o q => k it (by simp) o q, ne⟩
  item := by
    intro X hP hw hK calm i pins s σ H E I hf ⟨⟨old, he, ho0, ho1⟩, hkp, hit, ne, nki, nke⟩ ⟨hS, hlt⟩
    obtain ⟨its, sq, hz, hR⟩ := C.get hP hw hK I hS
    have nai : a ≠ it := C.here hP hw hK I hS (hf it (by simp))
    have nae : a ≠ e := C.here hP hw hK I hS (hf e (by simp))
    have nak : a ≠ kept := C.here hP hw hK I hS (hf kept (by simp))
    subst hP hw hK
    have D := Raw.seq (prog := X.prog) (w := X.w) (A := X.A.in1) (I.ok.hd calm) lst it a nai its
    have hef : e ∉ [it, a] := by simp [ne, Ne.symm nae]
    have hkf : kept ∉ [it, a] := by simp [nki, Ne.symm nak]
    have el := Heap.lt_size he
    have il : it < s.heap.objs.size := by obtain ⟨_, q, _⟩ := hit.live; exact Heap.lt_size q
    have kl : kept < s.heap.objs.size := by obtain ⟨_, _, _, q⟩ := hkp; exact Heap.lt_size q
    -- what is done with the pair
    have fin : ∀ (x0 x : Value) (h' : Heap), R i x0 → R (i + 1) x → IsP h' e (rawInt s.heap.objs.size) (.ref it) x kept → IsK h' kept → itAt lst h' it a (i + 1 + 1) → h'.get? s.heap.objs.size = some { cls := .type "tuple", data := .seq #[x0, x] } →
        (∀ b o, b ≠ e → b ≠ it → b ≠ kept → s.heap.get? b = some o → h'.get? b = some o) → wpAny (model X.prog X.w) X.A (letOwnedTupleGo (.Tuple elts kk tpos) (.ref e) (.ref s.heap.objs.size)) (fun _ s2 => ∃ x H', Inv X pins σ H' s2 ∧ RelV x (Value.ref s.heap.objs.size) ∧ (IpX S n xs).yld i H x H' ∧ ((∃ old, IsP s2.heap e .none (.ref it) old kept ∧ (i + 1 = 0 → old = itNothing) ∧ (0 < i + 1 → R (i + 1) old ∧ i + 1 < n)) ∧ IsK s2.heap kept ∧ itAt lst s2.heap it a (if i + 1 = 0 then 0 else i + 1 + 1) ∧ e ≠ it ∧ kept ≠ it ∧ kept ≠ e) ∧ ∀ b ∈ [e, it, kept], H' b = none) E { s with heap := h' } := by
      intro x0 x h' r0 r1 he' hk' hi' hT hkeep
      refine go_ (s := { s with heap := h' }) he' fun h2 he2 sb => ?_
      have hT2 : h2.get? s.heap.objs.size = some { cls := .type "tuple", data := .seq #[x0, x] } := (sb.2 _ (Nat.ne_of_gt el)).trans hT
      have new : ObjOk X.prog X.w (L2.upd H s.heap.objs.size (.tup [xs i, xs (i + 1)])) h2 s.heap.objs.size (.tup [xs i, xs (i + 1)]) :=
        ⟨by show 2 ≤ sizeLine; decide, [x0, x], .cons (C.rel i x0 r0) (.cons (C.rel (i + 1) x r1) .nil), ⟨_, hT2, rfl, _, rfl⟩⟩
      have I1 : L2.Inv X pins σ (L2.upd H s.heap.objs.size (.tup [xs i, xs (i + 1)])) { s with heap := h2, toks := s.toks } :=
        I.turnedNew (ch := [e, it, kept]) (fun b ob hb q => by
          have hb' : b ≠ e ∧ b ≠ it ∧ b ≠ kept := by simpa using hb
          exact (sb.2 b hb'.1).trans (hkeep b ob hb'.1 hb'.2.1 hb'.2.2 q)) hf (Nat.le_refl _) new
      refine ⟨.ref s.heap.objs.size, _, I1, rfl, ⟨_, rfl, I.hok.fresh (Nat.le_refl _), rfl⟩, ⟨⟨x, he2, fun z => absurd z (Nat.succ_ne_zero i), fun _ => ⟨r1, hlt⟩⟩, ?_, ?_, ne, nki, nke⟩, fun b hb => ?_⟩
      · obtain ⟨k1, k2, kn, q⟩ := hk'
        exact ⟨k1, k2, kn, (sb.2 kept nke).trans q⟩
      · rw [if_neg (Nat.succ_ne_zero i)]
        exact hi'.at fun o q => (sb.2 it (Ne.symm ne)).trans q
      · have lt : b < s.heap.objs.size := by
          rcases (show b = e ∨ b = it ∨ b = kept by simpa using hb) with z | z | z
          · exact z ▸ el
          · exact z ▸ il
          · exact z ▸ kl
        exact (upd_ne (Nat.ne_of_lt lt)).trans (hf b hb).1
    cases i with
    | zero =>
      have e0 := ho0 rfl
      subst e0
      rw [if_pos rfl] at hit
      exact next_first D he hkp ⟨hit, sq⟩ (by omega) ne hef nki hkf nke fun x0 x h' p0 p1 he' hk' hi' hT hz' hkeep => ⟨_, rfl, fin x0 x h' (hR _ _ p0) (hR _ _ p1) he' hk' hi'.1 hT hkeep⟩
    | succ i =>
      rw [if_neg (Nat.succ_ne_zero i)] at hit
      have r0 := (ho1 (Nat.succ_pos i)).1
      exact next_item D he hkp (C.old _ _ r0 (Nat.succ_pos i)) ⟨hit, sq⟩ (by omega) ne hef nki hkf nke fun x h' p1 he' hk' hi' hT hz' hkeep => ⟨_, rfl, fin old x h' r0 (hR _ _ p1) he' hk' hi'.1 hT hkeep⟩
  done := by
    intro X hP hw hK calm i pins s σ H E I hf ⟨⟨old, he, ho0, ho1⟩, hkp, hit, ne, nki, nke⟩ ⟨hS, hge⟩
    obtain ⟨its, sq, hz, hR⟩ := C.get hP hw hK I hS
    have nai : a ≠ it := C.here hP hw hK I hS (hf it (by simp))
    have nae : a ≠ e := C.here hP hw hK I hS (hf e (by simp))
    subst hP hw hK
    have D := Raw.seq (prog := X.prog) (w := X.w) (A := X.A.in1) (I.ok.hd calm) lst it a nai its
    have hef : e ∉ [it, a] := by simp [ne, Ne.symm nae]
    have fin : ∀ h', (∀ b o, b ≠ e → b ≠ it → s.heap.get? b = some o → h'.get? b = some o) → (none : Option Value) = none ∧ Inv X pins σ H { s with heap := h' } := fun h' k =>
      ⟨rfl, I.turnedL (t' := s.toks) (ch := [e, it]) (fun b o hb q => by
        have hb' : b ≠ e ∧ b ≠ it := by simpa using hb
        exact k b o hb'.1 hb'.2 q) fun b hb => hf b (by
        rcases (show b = e ∨ b = it by simpa using hb) with z | z <;> simp [z])⟩
    cases i with
    | zero =>
      have e0 := ho0 rfl
      subst e0
      rw [if_pos rfl] at hit
      rcases (show n = 0 ∨ n = 1 by omega) with z | z
      · rw [← hz] at z
        rw [z] at D
        exact next_none D he ⟨hit, sq⟩ ne fin
      · rw [← hz] at z
        rw [z] at D
        exact next_one D he ⟨hit, sq⟩ ne hef fin
    | succ i =>
      rw [if_neg (Nat.succ_ne_zero i)] at hit
      obtain ⟨r0, r1⟩ := ho1 (Nat.succ_pos i)
      have z : i + 1 + 1 = its.size := by omega
      exact next_end D he (C.old _ _ r0 (Nat.succ_pos i)) ⟨z ▸ hit, sq⟩ ne fin
  self := fun A i s Q E ⟨⟨_, he, _⟩, _⟩ h => iter_ he h
end Pw
namespace Pw
open PySem PySem.Spec
open PySem.Builtin.Itertools
theorem rel_old {x : V} {v : Value} (h : RelV x v) (hx : x ≠ .int 0) : (v == itNothing) = false := by
  cases e : v == itNothing with
  | false => rfl
  | true =>
    have e := eq_of_beq e
    subst e
    cases x with
    | int i =>
      obtain ⟨t, e⟩ : ∃ t, itNothing = Value.int i t := h
      have := (Value.int.inj (show Value.int 0 0 = Value.int i t from e)).1
      exact absurd (by rw [← this]) hx
    | str s => obtain ⟨t, e⟩ : ∃ t, itNothing = Value.str s t := h; cases e
    | byt s => obtain ⟨t, e⟩ : ∃ t, itNothing = Value.bytes s t := h; cases e
    | flt s => obtain ⟨t, e⟩ : ∃ t, itNothing = Value.float s t := h; cases e
    | _ => cases (show itNothing = _ from h)
def SqB (lst : Bool) (K : PySem.W.Frag) (H : Hp) (a : Addr) (xs : List V) : Prop := if lst then SqL K H a xs else SqT K H a xs
theorem not_rd {X : Cx} {pins : List (Addr × Obj)} {σ : List (Option V)} {H : Hp} {s : Shared} {a b : Addr} {lst : Bool} {xs : List V} (I : Inv X pins σ H s) (h : SqB lst X.K H a xs) (f : FpOk X pins H b) : a ≠ b := fun z => by
  subst z
  have one : ∀ u, ¬ Rd H a u := fun u r => by
    rcases r with r | ⟨o, r⟩ <;> (rw [f.1] at r; cases r)
  have two : ∀ o, X.K.lookup a = some o → False := fun o q => by
    have e := I.ok.mod.kin a o q
    rcases f.2.2.2.1 with r | r
    · exact I.ok.noex a o e r
    · have l1 := Heap.lt_size e
      have l2 := I.ok.bsz
      exact absurd (Nat.lt_of_lt_of_le l1 l2) (Nat.not_lt.mpr r)
  cases lst
  · rcases (show SqT X.K H a xs from h) with r | ⟨o, _, _, q, _⟩
    · exact one _ r
    · exact two o q
  · rcases (show SqL X.K H a xs from h) with r | ⟨o, _, _, q, _⟩
    · exact one _ r
    · exact two o q
theorem src_seq (P : Program) (w : World) (K : PySem.W.Frag) (lst : Bool) (a : Addr) (xs : List V) (hx : ∀ i x, 0 < i → xs[i]? = some x → x ≠ .int 0) :
    Src P w K lst a xs.length (fun i => xs.getD i .non) (fun i v => ∃ x, xs[i]? = some x ∧ RelV x v) (fun H => SqB lst K H a xs) where
  get := fun {X pins σ H s} hP hw hK I h => by
    subst hP hw hK
    cases lst
    · obtain ⟨its, rv, p, hz⟩ := I.tuple h
      refine ⟨its.toArray, p, by rw [List.size_toArray, rv.length], fun i v e => ?_⟩
      have e' : its[i]? = some v := by simpa using e
      obtain ⟨hi, _⟩ := List.getElem?_eq_some_iff.mp e'
      have hi' : i < xs.length := by rw [rv.length]; exact hi
      obtain ⟨u, h1, h2⟩ := rv.get (List.getElem?_eq_getElem hi')
      rw [e'] at h1
      cases h1
      exact ⟨xs[i], List.getElem?_eq_getElem hi', h2⟩
    · obtain ⟨its, rv, p, hz⟩ := I.list h
      refine ⟨its.toArray, p.isList, by rw [List.size_toArray, rv.length], fun i v e => ?_⟩
      have e' : its[i]? = some v := by simpa using e
      obtain ⟨hi, _⟩ := List.getElem?_eq_some_iff.mp e'
      have hi' : i < xs.length := by rw [rv.length]; exact hi
      obtain ⟨u, h1, h2⟩ := rv.get (List.getElem?_eq_getElem hi')
      rw [e'] at h1
      cases h1
      exact ⟨xs[i], List.getElem?_eq_getElem hi', h2⟩
  here := fun {X pins σ H s b} hP hw hK I h f => by
    subst hK
    exact not_rd I h f
  rel := fun i v ⟨x, e, r⟩ => by
    show RelV (xs.getD i .non) v
    rw [List.getD_eq_getElem?_getD, e]
    exact r
  old := fun i v ⟨x, e, r⟩ hi => rel_old r (hx i x hi e)
/-- the iterator of a list | a tuple -/
theorem iter_seq {M : Program} {w : World} {A : Around} {E : Value → Shared → Prop} {s : Shared} {lst : Bool} {a : Addr} {its : Array Value} {Q : Value → Shared → Prop} (h : seqAt lst s.heap a its)
    (q : ∀ h', itAt lst h' s.heap.objs.size a 0 → (∀ b o, s.heap.get? b = some o → h'.get? b = some o) → Q (.ref s.heap.objs.size) { s with heap := h' }) : wpAny (model M w) A (pyIter (.ref a)) Q E s := by
  cases lst
  · exact wpAny_pyIter_tuple (show s.heap.IsTuple a its from h) (q _ ⟨_, Heap.get?_push_size _ rfl, rfl, rfl⟩ fun b o k => Heap.get?_push_of_some _ k)
  · exact wpAny_pyIter_list (show s.heap.IsList a its from h) (q _ ⟨_, Heap.get?_push_size _ rfl, rfl, rfl⟩ fun b o k => Heap.get?_push_of_some _ k)
/-- pairwise(e) of a list or a tuple none of whose items but the first is 0 -/
def iPwQ (K : PySem.W.Frag) (ta : TA) : TI := fun σ H R => ta σ H fun vs H1 => ∃ (a : Addr) (xs : List V) (lst : Bool), vs = [.ref a] ∧ SqB lst K H1 a xs ∧ (∀ i x, 0 < i → xs[i]? = some x → x ≠ .int 0) ∧ R (IpX (fun H => SqB lst K H a xs) xs.length (fun i => xs.getD i .non)) H1
theorem pi_of {X : Cx} {pins : List (Addr × Obj)} {σ : List (Option V)} {H : Hp} {s : Shared} {lst : Bool} {elts : List Expr} {kk : Nat} {tpos : Pos} {a : Addr} {n : Nat} {xs : Nat → V} {R : Nat → Value → Prop} {S : Hp → Prop} {Rr : It → Hp → Prop} (C : Src X.prog X.w X.K lst a n xs R S) (I : Inv X pins σ H s) (hS : S H) (q : Rr (IpX S n xs) H) :
    wpAny (model X.prog X.w) X.A (call (.type "itertools.pairwise") [.ref a]) (fun v s1 => wpAny (model X.prog X.w) X.A (pyIter v) (PIE X pins σ (.Tuple elts kk tpos) Rr) X.xe s1) X.xe s := by
  obtain ⟨its, sq, hz, hR⟩ := C.get rfl rfl rfl I hS
  refine call_ (P := fun v s1 => ∃ h', v = .ref s.heap.objs.size ∧ s1 = { s with heap := h' } ∧ itAt lst h' s.heap.objs.size a 0 ∧ (∀ b o, s.heap.get? b = some o → h'.get? b = some o) ∧ s.heap.objs.size < h'.objs.size) (iter_seq sq fun h' hi hk => ⟨h', rfl, rfl, hi, hk, by obtain ⟨_, e, _⟩ := hi.live; exact Heap.lt_size e⟩) fun it s1 h' ⟨h1, e1, e2, hi, hk, hlt⟩ he hkp hk2 => ?_
  subst e1 e2
  have I1 : Inv X pins σ H { s with heap := h' } := I.kept (t' := s.toks) fun b o e => hk2 b o (hk b o e)
  have le : s.heap.objs.size ≤ h1.objs.size := Nat.le_of_lt hlt
  have foot : ∀ b, s.heap.objs.size ≤ b → FpOk X pins H b := fun b hb => I.fpOk hb (I.hok.fresh hb)
  refine iter_ (s := { s with heap := h' }) he ⟨_, [h1.objs.size + 1, s.heap.objs.size, h1.objs.size], _, _, H, rfl, I1, turn_pw C (h1.objs.size + 1) s.heap.objs.size h1.objs.size, ⟨⟨_, he, fun _ => rfl, fun z => absurd z (Nat.lt_irrefl 0)⟩, hkp, ?_, Nat.ne_of_gt (Nat.lt_succ_of_lt hlt), Nat.ne_of_gt hlt, Nat.ne_of_lt (Nat.lt_succ_self _)⟩, fun b hb => ?_, q⟩
  · rw [if_pos rfl]
    exact hi.at fun o e => hk2 _ o e
  · rcases (show b = h1.objs.size + 1 ∨ b = s.heap.objs.size ∨ b = h1.objs.size by simpa using hb) with z | z | z
    · rw [z]; exact foot _ (Nat.le_succ_of_le le)
    · rw [z]; exact foot _ (Nat.le_refl _)
    · rw [z]; exact foot _ le
theorem pi_pwQ {X : Cx} {K : PySem.W.Frag} {e : Expr} {ta : TA} {x : Str} {p pos tpos : Pos} {elts : List Expr} {kk : Nat} (hK : X.K = K) (hg : Gl X x) (hm : X.mg x = some (.type "itertools.pairwise")) (ha : PA X [e] ta) (hdb : (x == ("__debug__" : Str)) = false := by decide) (hs : starEach [e] X.env = [(false, eval e X.env)] := by rfl) :
    PI X (.Tuple elts kk tpos) (.Call (.Name x p) [e] [] pos) (iPwQ K ta) := by
  subst hK
  refine ⟨fun pins s σ H R I h => Call_ (ld_glob I hg hm (PyProof.Rows.callWith_type1 (thn (ha.run pos pins s σ H _ I h) fun us s1 ⟨vs, H1, I1, r1, a, xs, lst, ex, hq, hx, q⟩ => ?_) hs rfl) hdb)⟩
  subst ex
  obtain ⟨u, rfl, ru⟩ := r1.one
  cases ru
  exact pi_of (src_seq X.prog X.w X.K lst a xs hx) I1 hq q
end Pw
namespace Vv
section
variable {B : Tb} {u : Option (Addr × Value × Option Addr)} {X : Cx} {W : WX}
def pairF : List D → List D
  | x :: y :: r => .tup [x, y] :: pairF (y :: r)
  | _ => []
def noZ : D → Bool
  | .int i => decide (i ≠ 0)
  | _ => true
def pwD : D → Option (List D)
  | .lst l => if (l.drop 1).all noZ then some (pairF l) else none
  | .tup l => if (l.drop 1).all noZ then some (pairF l) else none
  | _ => none
def iPw (fa : Af) : Af := fun ρ s => (fa ρ s).bind fun ds s1 => match ds with
  | [d] => opt (pwD d) s1
  | _ => .bad
theorem pairF_len : ∀ l : List D, (pairF l).length = l.length - 1
  | [] => rfl
  | [_] => rfl
  | x :: y :: r => by
    rw [pairF, List.length_cons, pairF_len (y :: r), List.length_cons, List.length_cons, List.length_cons]
    omega
theorem pairF_at : ∀ (l : List D) (i : Nat) (x y : D), l[i]? = some x → l[i + 1]? = some y → (pairF l)[i]? = some (.tup [x, y])
  | [], _, _, _, h, _ => by cases h
  | [_], i, _, _, _, h => by cases h
  | a :: b :: r, 0, x, y, h1, h2 => by
    cases h1
    cases h2
    rfl
  | a :: b :: r, i + 1, x, y, h1, h2 => by
    rw [pairF, List.getElem?_cons_succ]
    exact pairF_at (b :: r) i x y (by simpa using h1) (by simpa using h2)
theorem walk_pw {K : PySem.W.Frag} {a : Addr} {lst : Bool} {xs : List V} : Walk (Pw.IpX (fun H => Pw.SqB lst K H a xs) xs.length (fun i => xs.getD i .non)) (xs.length - 1) (fun H => Pw.SqB lst K H a xs) (YPair (fun i => xs[i]?) (fun i => xs[i + 1]?)) := by
  refine ⟨fun i _ hi q => ⟨q, by omega⟩, fun _ q => ⟨q, by omega⟩, fun i H v H' hi q y => ?_⟩
  obtain ⟨T, e1, e2, e3⟩ := y
  have h1 : i < xs.length := by omega
  have h2 : i + 1 < xs.length := by omega
  have g1 : xs.getD i .non = xs[i] := by simp [h1]
  have g2 : xs.getD (i + 1) .non = xs[i + 1] := by simp [h2]
  replace e3 : H' = upd H T (.tup [xs.getD i .non, xs.getD (i + 1) .non]) := e3
  rw [g1, g2] at e3
  exact ⟨T, xs[i], xs[i + 1], e1, e2, e3, List.getElem?_eq_getElem h1, List.getElem?_eq_getElem h2⟩
theorem noZ_of {Z : Hp} {v : V} {d : D} (r : Rp B Z v d) (h : noZ d = true) : v ≠ .int 0 := fun e => by
  subst e
  cases r
  exact absurd h (by decide)
theorem vi_pw {e : Expr} {fa : Af} {x : Str} {p pos tpos : Pos} {elts : List Expr} {kk : Nat} (hK : X.K = B.K) (hg : Gl X x) (hm : X.mg x = some (.type "itertools.pairwise")) (ha : VA B u X W [e] fa) (hdb : (x == ("__debug__" : Str)) = false := by decide) (hs : starEach [e] X.env = [(false, eval e X.env)] := by rfl) :
    VIt B u X W (.Tuple elts kk tpos) (.Call (.Name x p) [e] [] pos) (iPw fa) := by
  intro G hG
  have h0 := ha G hG
  obtain ⟨rfl, rfl⟩ := hG
  refine pi_mono (Pw.pi_pwQ (K := G.B.K) hK hg hm h0 hdb hs) fun σ H Rr ⟨Z, ρ, s, I, h⟩ => ?_
  refine ⟨Z, ρ, s, I, ?_⟩
  have h := h.bind
  cases ef : fa ρ s with
  | bad => rw [ef] at h; exact h.elim
  | exc c fs s1 => rw [ef] at h; exact h
  | ok ds s1 =>
    rw [ef] at h
    match ds, h, ef with
    | [], h, _ => exact h.elim
    | _ :: _ :: _, h, _ => exact h.elim
    | [d], h, ef =>
      obtain ⟨ds, e1, k⟩ := ROk.opt (show ROk G W σ ρ Z (opt (pwD d) s1) _ from h)
      have key : ∀ {vs : List V} {l : List D} {Z1 : Hp}, Rps G.B Z1 vs l → (l.drop 1).all noZ = true → (∀ i x, 0 < i → vs[i]? = some x → x ≠ .int 0) ∧ ∀ i x y, vs[i]? = some x → vs[i + 1]? = some y → ∃ dx dy, (pairF l)[i]? = some (.tup [dx, dy]) ∧ Rp G.B Z1 x dx ∧ Rp G.B Z1 y dy := fun {vs l Z1} rs hz => by
        refine ⟨fun i x hi hx => ?_, fun i x y hx hy => ?_⟩
        · obtain ⟨d, ed, rd⟩ := rs.at2 hx
          refine noZ_of rd (List.all_eq_true.mp hz d ?_)
          have : (l.drop 1)[i - 1]? = some d := by rw [List.getElem?_drop, show 1 + (i - 1) = i by omega]; exact ed
          exact List.mem_of_getElem? this
        · obtain ⟨d1, ed1, rd1⟩ := rs.at2 hx
          obtain ⟨d2, ed2, rd2⟩ := rs.at2 hy
          exact ⟨d1, d2, pairF_at l i d1 d2 ed1 ed2, rd1, rd2⟩
      have main : ∀ {l : List D}, itD d = some l → (∀ t, d ≠ .str t) → (l.drop 1).all noZ = true → ds = pairF l → ∀ (vs : List V) (Z1 H1 : Hp), VI G Z1 H1 σ ρ s1 → Same Z Z1 → Rps G.B Z1 vs [d] → ∃ (a : Addr) (xs : List V) (lst : Bool), vs = [.ref a] ∧ Pw.SqB lst G.B.K H1 a xs ∧ (∀ i x, 0 < i → xs[i]? = some x → x ≠ .int 0) ∧ Rr (Pw.IpX (fun H => Pw.SqB lst G.B.K H a xs) xs.length (fun i => xs.getD i .non)) H1 := fun {l} hl hns hz hd vs Z1 H1 I1 z1 rr => by
        cases rr with
        | cons r rr =>
          cases rr
          subst hd
          rcases itD_len (K := G.B.K) r hl with q | ⟨a, ws, rfl, rs, ⟨_, q⟩ | ⟨_, q⟩⟩
          · obtain ⟨t, q⟩ := q; exact absurd q (hns t)
          · obtain ⟨k1, k2⟩ := key rs hz
            exact ⟨a, ws, true, rfl, .inl (.inl (I1.zh _ _ q)), k1, k _ Z1 H1 I1 z1 (walkD_pair walk_pw (by rw [pairF_len, rs.len]) (fun H z => .inl (.inl (z _ _ q))) k2)⟩
          · obtain ⟨k1, k2⟩ := key rs hz
            exact ⟨a, ws, false, rfl, seqT_mono I1.zh q, k1, k _ Z1 H1 I1 z1 (walkD_pair walk_pw (by rw [pairF_len, rs.len]) (fun H z => seqT_mono z q) k2)⟩
      intro vs Z1 H1 I1 z1 r
      cases d with
      | lst l =>
        obtain ⟨hz, e2⟩ := ite_some (show (if (l.drop 1).all noZ then some (pairF l) else none) = some ds from e1)
        exact main rfl (fun t z => nomatch z) hz e2.symm vs Z1 H1 I1 z1 r
      | tup l =>
        obtain ⟨hz, e2⟩ := ite_some (show (if (l.drop 1).all noZ then some (pairF l) else none) = some ds from e1)
        exact main rfl (fun t z => nomatch z) hz e2.symm vs Z1 H1 I1 z1 r
      | _ => cases e1
end
end Vv
namespace Pw
open PySem PySem.Spec
open PySem.Builtin.Itertools
def Toks (its : List Value) (ns : List Int) : Prop := its.length = ns.length ∧ ∀ i v, its[i]? = some v → ∃ t, v = .int (ns.getD i 0) t ∧ (0 < i → t ≠ 0)
theorem Toks.add {its : List Value} {ns : List Int} {k : Int} {t : Tok} (h : Toks its ns) (ht : t ≠ 0) : Toks (its ++ [.int k t]) (ns ++ [k]) := by
  refine ⟨by rw [List.length_append, List.length_append, h.1]; rfl, fun i v e => ?_⟩
  by_cases hi : i < its.length
  · rw [List.getElem?_append_left hi] at e
    obtain ⟨u, e1, e2⟩ := h.2 i v e
    refine ⟨u, ?_, e2⟩
    rw [e1, List.getD_eq_getElem?_getD, List.getD_eq_getElem?_getD, List.getElem?_append_left (by rw [← h.1]; exact hi)]
  · have hz : i < (its ++ [Value.int k t]).length := (List.getElem?_eq_some_iff.mp e).1
    rw [List.length_append, List.length_singleton] at hz
    have hi' : i = its.length := by omega
    subst hi'
    rw [List.getElem?_append_right (Nat.le_refl _), Nat.sub_self] at e
    cases e
    refine ⟨t, ?_, fun _ => ht⟩
    rw [List.getD_eq_getElem?_getD, h.1, List.getElem?_append_right (Nat.le_refl _), Nat.sub_self]
    rfl
def LtO (p : Addr) (ns : List Int) : HO := .ext fun h => ∃ (its : List Value) (n : Nat), h.get? p = some { cls := .type "list", dict := none, data := .seq its.toArray n, slots := #[] } ∧ Toks its ns
def HtO (p : Addr) (ns : List Int) : HO := .ext fun h => ∃ its : List Value, IsTup h p its.toArray ∧ Toks its ns
theorem ltO_ok {P : Program} {w : World} {H : Hp} {h : Heap} {p : Addr} {ns : List Int} {its : List Value} {n : Nat} (e : h.get? p = some { cls := .type "list", dict := none, data := .seq its.toArray n, slots := #[] }) (t : Toks its ns) : ObjOk P w H h p (LtO p ns) :=
  ⟨⟨its, n, e, t⟩, ⟨_, e⟩, fun h1 h2 ⟨i, m, e1, t1⟩ k => ⟨i, m, k _ e1, t1⟩⟩
theorem htO_ok {P : Program} {w : World} {H : Hp} {h : Heap} {p : Addr} {ns : List Int} {its : List Value} (e : IsTup h p its.toArray) (t : Toks its ns) : ObjOk P w H h p (HtO p ns) := by
  refine ⟨⟨its, e, t⟩, ?_, fun h1 h2 ⟨i, e1, t1⟩ k => ⟨i, ?_, t1⟩⟩
  · obtain ⟨o, ho, _⟩ := e
    exact ⟨o, ho⟩
  · obtain ⟨o, ho, r⟩ := e1
    exact ⟨o, k _ ho, r⟩
section
variable {X : Cx} {pins : List (Addr × Obj)} {σ : List (Option V)} {H : Hp} {s : Shared} {p : Addr} {ns : List Int}
theorem ltO_get (I : Inv X pins σ H s) (h : H p = some (LtO p ns)) : ∃ (its : List Value) (n : Nat), s.heap.get? p = some { cls := .type "list", dict := none, data := .seq its.toArray n, slots := #[] } ∧ Toks its ns := by
  have q := I.hok p _ h
  unfold LtO at q
  exact q.1
theorem htO_get (I : Inv X pins σ H s) (h : H p = some (HtO p ns)) : ∃ its : List Value, IsTup s.heap p its.toArray ∧ Toks its ns := by
  have q := I.hok p _ h
  unfold HtO at q
  exact q.1
/-- a new list of one int -/
theorem retrack {k : Int} (I : Inv X pins σ H s) (h : H p = some (.lst [.int k])) : Inv X pins σ (upd H p (LtO p [k])) s := by
  obtain ⟨z, its, n, r, hl, e⟩ := I.lstM h
  obtain ⟨u, rfl, ru⟩ := r.one
  obtain ⟨t, rfl⟩ := ru
  have new : ObjOk X.prog X.w (upd H p (LtO p [k])) s.heap p (LtO p [k]) := ltO_ok e ⟨rfl, fun i v q => by
    cases i with
    | zero => cases q; exact ⟨t, rfl, fun z => absurd z (Nat.lt_irrefl 0)⟩
    | succ i => cases q⟩
  exact I.write (x := p) (e := p) (h' := s.heap) (t' := s.toks) (by rw [h]; exact trivial) (.inl rfl) (fun _ _ _ q => q) ⟨_, e⟩ new
theorem pe_conv {e : Expr} {te : TE} (he : PE X e te) : PE X e (fun σ H Q => te σ H fun v H' => ∃ p k, v = .ref p ∧ H' p = some (.lst [.int k]) ∧ Q (.ref p) (upd H' p (LtO p [k]))) := by
  refine ⟨fun pins s σ H Q I h => thn (he.run pins s σ H _ I h) fun v s1 ⟨x, H1, I1, r1, p, k, ex, hp, q⟩ => ?_⟩
  subst ex
  exact ⟨.ref p, _, retrack I1 hp, r1, q⟩
/-- its last item -/
theorem ix_lstO : IxR X (fun x y H Q => ∃ (p : Addr) (ns : List Int) (k : Int), x = .ref p ∧ y = .int (-1) ∧ H p = some (LtO p (ns ++ [k])) ∧ ns.length ≤ 1000 ∧ Q (.int k) H) := by
  intro value slice pins s σ H x y v u Q I rx ry h hs
  obtain ⟨p, ns, k, rfl, rfl, hp, hz, q⟩ := h
  cases rx
  obtain ⟨t, rfl⟩ := ry
  obtain ⟨its, n, e, tk⟩ := ltO_get I hp
  have hl := tk.1
  rw [List.length_append, List.length_singleton] at hl
  have hj : its[ns.length]? = some its[ns.length] := List.getElem?_eq_getElem (by omega)
  obtain ⟨t', e1, _⟩ := tk.2 _ _ hj
  have e2 : (ns ++ [k]).getD ns.length 0 = k := by
    rw [List.getD_eq_getElem?_getD, List.getElem?_append_right (Nat.le_refl _), Nat.sub_self]
    rfl
  rw [e2] at e1
  rw [e1] at hj
  have fin : EP X pins σ Q (.int k t') s := ⟨.int k, H, I, ⟨t', rfl⟩, q⟩
  have isl : s.heap.IsList p its.toArray := ⟨_, e, rfl, n, rfl⟩
  exact subscriptTail_builtinR (x := .int k t') isl.typeIs slot_list_getitem.lookup
    (wpAny_getItem_list_neg (Q := fun r s' => r = .int k t' ∧ EP X pins σ Q r s') isl (by omega) (by rw [List.size_toArray]; omega) (by omega) (by
      rw [List.size_toArray, show ((-1 : Int) + (its.length : Int)).toNat = ns.length by omega]
      simpa using hj) ⟨rfl, fin⟩) hs
/-- a rule behind which marks have been given -/
structure PE1 (X : Cx) (e : Expr) (t : TE) : Prop where
  run : ∀ (pins : List (Addr × Obj)) (s : Shared) (σ : List (Option V)) (H : Hp) (Q : VK), Inv X pins σ H s → t σ H Q → wpAny (model X.prog X.w) X.A (eval e X.env) (fun u s' => EP X pins σ Q u s' ∧ 1 ≤ s'.toks) X.xe s
theorem pe1_int {i : Int} {j : Nat} {pos : Pos} : PE1 X (.Constant (.int i) j pos) (tC (.int i)) := ⟨fun _ s _ H _ I h => wpAny_Constant_int ⟨⟨.int i, H, I.tok _, ⟨_, rfl⟩, h⟩, by show 1 ≤ s.toks + 1; omega⟩⟩
theorem pe1_neg {a : Expr} {pos : Pos} {ta : TE} (ha : PE1 X a ta) : PE1 X (.UnaryOp .USub a pos) (fun σ H Q => ta σ H fun x H1 => ∃ i, x = .int i ∧ Q (.int (-i)) H1) := by
  refine ⟨fun pins s σ H Q I h => ?_⟩
  refine UnaryOp_ (thn (ha.run pins s σ H _ I h) fun v s1 ⟨⟨x, H1, I1, r1, i, ex, q1⟩, h1⟩ => ?_)
  subst ex
  obtain ⟨t, rfl⟩ := r1
  exact neg_int ⟨⟨.int (-i), H1, I1.tok _, ⟨_, rfl⟩, q1⟩, by show 1 ≤ s1.toks + 1; omega⟩
theorem pe1_ifExp {c a b : Expr} {pos : Pos} {tA : TT} {ta tb : TE} (hc : PT X c tA) (ha : PE1 X a ta) (hb : PE1 X b tb) : PE1 X (.IfExp c a b pos) (tIf tA ta tb) := by
  refine ⟨fun pins s σ H Q I h => ?_⟩
  refine wpAny_IfExp (thn (hc.run pins s σ H _ I h) fun d s1 ⟨H1, I1, q1⟩ => ?_)
  cases d with
  | true => exact ha.run pins s1 σ H1 Q I1 q1
  | false => exact hb.run pins s1 σ H1 Q I1 q1
/-- an int that the program has made -/
structure PEt (X : Cx) (e : Expr) (t : TE) : Prop where
  run : ∀ (pins : List (Addr × Obj)) (s : Shared) (σ : List (Option V)) (H : Hp) (Q : VK), Inv X pins σ H s → t σ H Q → wpAny (model X.prog X.w) X.A (eval e X.env) (fun u s' => ∃ (k : Int) (tk : Tok) (H' : Hp), u = .int k tk ∧ tk ≠ 0 ∧ Inv X pins σ H' s' ∧ Q (.int k) H') X.xe s
theorem pet_add {a b : Expr} {pos : Pos} {ta tb : TE} (ha : PE X a ta) (hb : PE1 X b tb) : PEt X (.BinOp a .Add b pos) (fun σ H Q => ta σ H fun x H1 => tb σ H1 fun y H2 => ∃ i j, x = .int i ∧ y = .int j ∧ Q (.int (i + j)) H2) := by
  refine ⟨fun pins s σ H Q I h => wpAny_BinOp ?_⟩
  refine thn (ha.run pins s σ H _ I h) fun v s1 ⟨x, H1, I1, r1, q1⟩ => ?_
  refine thn (hb.run pins s1 σ H1 _ I1 q1) fun u s2 ⟨⟨y, H2, I2, r2, i, j, ex, ey, q2⟩, h2⟩ => ?_
  subst ex ey
  obtain ⟨t, rfl⟩ := r1
  obtain ⟨t', rfl⟩ := r2
  exact add_int ⟨i + j, s2.toks, H2, rfl, Nat.ne_of_gt h2, I2.tok _, q2⟩
/-- o.append(e), o such a list -/
theorem pe_appT {o e : Expr} {apos cpos : Pos} {to te : TE} (ho : PE X o to) (he : PEt X e te)
    (hbase : attributeBase o "append" X.env (eval o X.env) = eval o X.env := by rfl)
    (hfew : ((backTo cpos (starEach [e] X.env)).all (fun x => !x.1) && (backToKw cpos (keywordEach [] X.env)).all (fun x => x.1.isSome)
      && decide ([e].length + ([] : List Keyword).length + (if ([] : List Keyword).isEmpty then 0 else 1) < 30)) = true := by rfl)
    (hline : (apos.endLine == cpos.line) = true := by rfl) (hs : starEach [e] X.env = [(false, eval e X.env)] := by rfl) :
    PE X (.Call (.Attribute o "append" apos) [e] [] cpos) (fun σ H Q => to σ H fun x H1 => ∃ (p : Addr) (ns : List Int), x = .ref p ∧ H1 p = some (LtO p ns) ∧ te σ H1 fun y H2 => ∃ k, y = .int k ∧ H2 p = some (LtO p ns) ∧ ns.length ≤ 1000 ∧ Q .non (upd H2 p (LtO p (ns ++ [k])))) := by
  refine ⟨fun pins s σ H Q I h => ?_⟩
  refine wpAny_Call_method_late hbase hfew hline rfl (thn (ho.run pins s σ H _ I h) fun v s1 ⟨x, H1, I1, r1, p, ns, ex, hp, q1⟩ => ?_)
  subst ex
  cases r1
  obtain ⟨its, n, e1, tk⟩ := ltO_get I1 hp
  refine ⟨"list", "list.append", PySem.F.plainAttrs_list, PySem.F.slot_list_append, PySem.F.type_list_append, ⟨_, e1, rfl⟩, fun a ea => by cases ea; exact ⟨_, e1, rfl⟩, ?_⟩
  rw [hs]
  refine Calls.callWith_builtin rfl (Calls.evalArgs_plain ?_)
  show wpAny _ _ (spliced ((false, eval e X.env) :: backTo cpos (starEach [] X.env))) _ _ s1
  refine Calls.spliced_cons (thn (he.run pins s1 σ H1 _ I1 q1) fun u s2 ⟨k, tk', H2, eu, ht, I2, k', ek, hp2, hz, q2⟩ => ?_)
  cases ek
  subst eu
  obtain ⟨its2, n2, e2, tk2⟩ := ltO_get I2 hp2
  have hl := tk2.1
  refine (pa_nil (X := X)).run cpos pins s2 σ H2 (fun vs H3 => vs = [] ∧ H3 = H2) I2 ⟨rfl, rfl⟩ |> fun z => thn z fun us s3 ⟨vs, H3, I3, r3, ev, eH⟩ => ?_
  subst ev eH
  cases r3
  obtain ⟨its3, n3, e3, tk3⟩ := ltO_get I3 hp2
  have hl3 := tk3.1
  have ln := sizeLine_eq
  refine call_meets PySem.F.slot_list_append ⟨_, e3, rfl⟩ PySem.F.entry_list_append (PySem.F.args_list_append_2 _ _) (PySem.list_append p its3.toArray n3 (.int k tk') (by rw [List.size_toArray]; omega)) ⟨e3, ?_⟩
  have e4 : (s3.heap.update p (Obj.mapSeq fun x => x.push (Value.int k tk'))).get? p = some { cls := .type "list", dict := none, data := .seq (its3 ++ [Value.int k tk']).toArray (n3 + 1), slots := #[] } := by
    have e5 : (s3.heap.update p (Obj.mapSeq fun x => x.push (Value.int k tk'))).get? p = some (Obj.mapSeq (fun x => x.push (Value.int k tk')) { cls := .type "list", dict := none, data := .seq its3.toArray n3, slots := #[] }) := Heap.get?_update_self _ e3 rfl
    rw [e5]
    simp [Obj.mapSeq]
  have I4 := I3.write (x := p) (e := p) (h' := s3.heap.update p (Obj.mapSeq fun x => x.push (Value.int k tk'))) (o := LtO p (ns ++ [k])) (t' := s3.toks) (by rw [hp2]; exact trivial) (.inl rfl) (fun b u hb q => ((Heap.SameBut.update ..).2 b hb).trans q) ⟨_, e4⟩ (ltO_ok e4 (tk3.add ht))
  exact ⟨.non, _, I4, rfl, q2⟩
/-- tuple(o), o such a list -/
theorem call_tupO : CallR X (.type "tuple") (fun xs H Q => ∃ (p : Addr) (ns : List Int), xs = [.ref p] ∧ H p = some (LtO p ns) ∧ ns.length ≤ 1000 ∧ ∀ l, H l = none → Q (.ref l) (upd H l (HtO l ns))) := by
  intro pins s σ H xs us Q I r h
  obtain ⟨p, ns, rfl, hp, hz, q⟩ := h
  obtain ⟨u, rfl, rx⟩ := r.one
  cases rx
  obtain ⟨its, n, e, tk⟩ := ltO_get I hp
  have hl := tk.1
  have ln := sizeLine_eq
  refine call_tuple_list (items := its.toArray) ⟨_, e, rfl, n, rfl⟩ (fun h' kp => ?_) (by rw [List.size_toArray]; omega)
  have I1 : Inv X pins σ H { s with heap := h' } := I.kept (t' := s.toks) kp
  have I2 : Inv X pins σ (upd H h'.objs.size (HtO h'.objs.size ns)) { s with heap := h'.push { cls := .type "tuple", data := .seq its.toArray } } :=
    I1.laid (t' := s.toks) (fun b o e => Heap.get?_push_of_some _ e) (Nat.le_refl _) (htO_ok (IsTup.new _ _) tk)
  exact ⟨.ref h'.objs.size, _, I2, rfl, q _ (I1.hok.fresh (Nat.le_refl _))⟩
/-- the items of such a tuple -/
theorem src_ht (P : Program) (w : World) (K : PySem.W.Frag) (a : Addr) (ns : List Int) : Src P w K false a ns.length (fun i => .int (ns.getD i 0)) (fun i v => ∃ t, v = .int (ns.getD i 0) t ∧ (0 < i → t ≠ 0)) (fun H => H a = some (HtO a ns)) where
  get := fun {X pins σ H s} hP hw hK I h => by
    obtain ⟨its, p, tk⟩ := htO_get I h
    exact ⟨its.toArray, p, by rw [List.size_toArray, tk.1], fun i v e => tk.2 i v (by simpa using e)⟩
  here := fun {X pins σ H s b} hP hw hK I h f z => by
    subst z
    rw [f.1] at h
    cases h
  rel := fun i v ⟨t, e, _⟩ => ⟨t, e⟩
  old := fun i v ⟨t, e, h⟩ hi => by
    cases q : v == itNothing with
    | false => rfl
    | true =>
      have q := eq_of_beq q
      rw [e] at q
      exact absurd (Value.int.inj (show Value.int _ t = Value.int 0 0 from q)).2 (h hi)
/-- pairwise(e), e such a tuple -/
theorem pi_pwH {e : Expr} {te : TE} {x : Str} {p pos tpos : Pos} {elts : List Expr} {kk : Nat} (hg : Gl X x) (hm : X.mg x = some (.type "itertools.pairwise")) (he : PE X e te) (hdb : (x == ("__debug__" : Str)) = false := by decide) (hs : starEach [e] X.env = [(false, eval e X.env)] := by rfl) :
    PI X (.Tuple elts kk tpos) (.Call (.Name x p) [e] [] pos) (fun σ H R => te σ H fun v H1 => ∃ (a : Addr) (ns : List Int), v = .ref a ∧ H1 a = some (HtO a ns) ∧ R (IpX (fun H => H a = some (HtO a ns)) ns.length (fun i => .int (ns.getD i 0))) H1) := by
  refine ⟨fun pins s σ H R I h => Call_ (ld_glob I hg hm (PyProof.Rows.callWith_type1 ?_ hs rfl) hdb)⟩
  rw [hs]
  show wpAny _ _ (spliced ((false, eval e X.env) :: backTo pos (starEach [] X.env))) _ _ s
  refine Calls.spliced_cons (thn (he.run pins s σ H _ I h) fun u s1 ⟨v, H1, I1, r1, a, ns, ex, hq, q⟩ => ?_)
  subst ex
  cases r1
  refine (pa_nil (X := X)).run pos pins s1 σ H1 (fun vs H3 => vs = [] ∧ H3 = H1) I1 ⟨rfl, rfl⟩ |> fun z => thn z fun us s3 ⟨vs, H3, I3, r3, ev, eH⟩ => ?_
  subst ev eH
  cases r3
  exact pi_of (src_ht X.prog X.w X.K a ns) I3 hq q
end
end Pw
def HI (l : List Nat) : Nat → Int
  | 0 => 0
  | i + 1 => HI l i + (if l.getD i 0 = 100 then 1 else -1)
def HIs (l : List Nat) (i : Nat) : List Int := (List.range (i + 1)).map (HI l)
theorem HIs_len (l : List Nat) (i : Nat) : (HIs l i).length = i + 1 := by unfold HIs; rw [List.length_map, List.length_range]
theorem HIs_succ (l : List Nat) (i : Nat) : HIs l (i + 1) = HIs l i ++ [HI l (i + 1)] := by unfold HIs; rw [List.range_succ (n := i + 1), List.map_append]; rfl
theorem HIs_last (l : List Nat) (i : Nat) : HIs l i = (List.range i).map (HI l) ++ [HI l i] := by unfold HIs; rw [List.range_succ, List.map_append]; rfl
def spHt (C : Addr) : Sp := fun vs H Q _ => ∃ (a dx : Addr) (fs : List (Str × V)) (l : List Nat), vs = [.ref a] ∧ H a = some (.ins C dx fs) ∧ fs.lookup (Str.ofString "word") = some (V.str (sOf l)) ∧ l.length ≤ 100 ∧ ∀ p H', H p = none → Same H H' → H' p = some (Pw.HtO p (HIs l l.length)) → Q (.ref p) H'
namespace Vv
section
variable {B : Tb} {u : Option (Addr × Value × Option Addr)} {X : Cx} {W : WX}
def pwH (c : Nat) : D → Option (List D)
  | .obj c' (.str l :: _) => if c' = c then (if l.length ≤ 100 then some ((List.range l.length).map fun i => .tup [.int (HI l i), .int (HI l (i + 1))]) else none) else none
  | _ => none
def iPwH (c : Nat) (fo : Ef) : Af := fun ρ s => (fo ρ s).bind fun d s1 => opt (pwH c d) s1
theorem walk_ht {a : Addr} {ns : List Int} : Walk (Pw.IpX (fun H => H a = some (Pw.HtO a ns)) ns.length (fun i => .int (ns.getD i 0))) (ns.length - 1) (fun H => H a = some (Pw.HtO a ns)) (YPair (fun i => if i + 1 < ns.length then some (.int (ns.getD i 0)) else none) (fun i => if i + 1 < ns.length then some (.int (ns.getD (i + 1) 0)) else none)) := by
  refine ⟨fun i _ hi q => ⟨q, by omega⟩, fun _ q => ⟨q, by omega⟩, fun i H v H' hi q y => ?_⟩
  obtain ⟨T, e1, e2, e3⟩ := y
  have hi' : i + 1 < ns.length := by omega
  exact ⟨T, _, _, e1, e2, e3, if_pos hi', if_pos hi'⟩
theorem HIs_at {l : List Nat} {n i : Nat} (h : i ≤ n) : (HIs l n).getD i 0 = HI l i := by
  unfold HIs
  rw [List.getD_eq_getElem?_getD, List.getElem?_map, List.getElem?_range (by omega)]
  rfl
theorem vi_pwH (c : Nat) {n : Nat} {p f : Addr} {fd : FuncData} {ps : List Str} {o : Expr} {fo : Ef} {x : Str} {np apos pos tpos : Pos} {elts : List Expr} {kk : Nat} (hcl : Cls X.K (B.cls c)) (hp : PropOf X.K (B.cls c) "heights" p f) (hF : FnOk X.prog X.w X.K X.mg X.base CX0 n f fd ps (spHt (B.cls c))) (hr : Room (n + 1) X.A)
    (hb : Binds X.K fd ps []) (lk : ObjLk B c "word" 0) (hg : Gl X x) (hm : X.mg x = some (.type "itertools.pairwise")) (ho : VE B u X W o fo) (hbs : attributeBase o "heights" X.env (eval o X.env) = eval o X.env := by rfl) (hdb : (x == ("__debug__" : Str)) = false := by decide)
    (hs : starEach [.Attribute o "heights" apos] X.env = [(false, eval (.Attribute o "heights" apos) X.env)] := by rfl) :
    VIt B u X W (.Tuple elts kk tpos) (.Call (.Name x np) [.Attribute o "heights" apos] [] pos) (iPwH c fo) := by
  intro G hG
  have h0 := ho G hG
  obtain ⟨rfl, rfl⟩ := hG
  refine pi_mono (Pw.pi_pwH hg hm (pe_prop (E := E0) h0 hcl hp hF hr hb .nil pass0 hbs) hdb hs) fun σ H Rr ⟨Z, ρ, s, I, h⟩ => ?_
  refine ⟨Z, ρ, s, I, h.bind.up (Same.refl Z) fun d s1 h1 v Z1 H1 I1 z1 r => ?_⟩
  obtain ⟨ds, e1, k⟩ := ROk.opt h1
  cases d with
  | obj c' fs =>
    cases fs with
    | nil => cases e1
    | cons d0 fs =>
      cases d0 with
      | str l =>
        replace e1 : (if c' = c then (if l.length ≤ 100 then some ((List.range l.length).map fun i => D.tup [.int (HI l i), .int (HI l (i + 1))]) else none) else none) = some ds := e1
        by_cases hc : c' = c
        · rw [if_pos hc] at e1
          subst hc
          by_cases hl : l.length ≤ 100
          · rw [if_pos hl] at e1
            cases e1
            obtain ⟨a, dx, vs, rfl, ha, hlen, rs⟩ := obj_of r
            obtain ⟨x0, ex, rx⟩ := rs.at (i := 0) rfl
            cases rx
            refine ⟨a, dx, _, rfl, I1.zh _ _ ha, a, dx, _, l, rfl, I1.zh _ _ ha, (lk vs hlen).trans ex, hl, fun q H' hn hsm hq => ⟨q, _, rfl, hq, ?_⟩⟩
            have zn : Z1 q = none := I1.zh.free hn
            have t : Step Z1 H1 (upd Z1 q (Pw.HtO q (HIs l l.length))) H' := by
              refine ⟨hsm, same_new (Same.refl Z1) zn, fun b ob e => ?_, fun b ob e => ?_⟩
              · by_cases z : b = q
                · subst z; rw [upd_same] at e; cases e; exact hq
                · rw [upd_ne z] at e; exact hsm _ _ (I1.zh _ _ e)
              · by_cases z : b = q
                · subst z; exact .inr hn
                · rw [upd_ne z] at e; exact .inl e
            refine k _ _ _ (I1.step t) (z1.trans t.zz) (walkD_pair walk_ht (by rw [List.length_map, List.length_range, HIs_len]; rfl) (fun H z => z _ _ upd_same) fun i y1 y2 e3 e4 => ?_)
            rw [HIs_len] at e3 e4
            by_cases hi : i + 1 < l.length + 1
            · rw [if_pos hi] at e3 e4
              cases e3
              cases e4
              rw [HIs_at (by omega), HIs_at (by omega)]
              exact ⟨_, _, by rw [List.getElem?_map, List.getElem?_range (by omega)]; rfl, .int _, .int _⟩
            · rw [if_neg hi] at e3
              cases e3
          · rw [if_neg hl] at e1
            cases e1
        · rw [if_neg hc] at e1
          cases e1
      | _ => cases e1
  | _ => cases e1
end
end Vv
local macro_rules | `(tactic| walk_at "num") => `(tactic| first
  | omega
  | (with_reducible exact True.intro)
  | (show (0 : Int) < _; omega)
  | (refine cmul_r ?_; omega)
  | (refine cmul_l ?_; omega)
  | (refine cdiv ?_ ?_ <;> omega)
  | (refine cpow ?_ ?_ ?_ <;> decide)
  | (simp only [List.length_cons, List.length_nil, List.length_append, List.length_take, List.length_drop, List.length_map]; omega))
local macro_rules | `(tactic| walk_at "look") => `(tactic| first
  | assumption
  | exact upd_same
  | (rw [upd_ne (by assumption)]; assumption)
  | (rw [upd_ne (by first | assumption | (apply Ne.symm; assumption))]; first | assumption | exact upd_same))
local macro_rules | `(tactic| walk_at "go") => `(tactic| repeat (first
  | (refine ⟨_, rfl, ?_⟩)
  | (refine ⟨_, _, rfl, rfl, ?_⟩)
  | (refine ⟨_, _, _, _, rfl, rfl, SqL.of (by walk_at "look"), rfl, ?_⟩)
  | (refine ⟨_, _, _, _, rfl, rfl, by walk_at "look", rfl, ?_⟩)
  | (refine ⟨_, _, rfl, .inl (SqL.of (by walk_at "look")), ?_⟩)
  | (refine ⟨rfl, _, rfl, ?_⟩)
  | (refine ⟨_, _, _, _, _, rfl, by walk_at "look", by assumption, by assumption, rfl, ?_⟩)
  | (refine And.intro (Or.inl ⟨rfl, _, SqL.of (by walk_at "look")⟩) ?_)
  | (refine And.intro ⟨_, rfl⟩ ?_)
  | (refine Or.inl ⟨_, rfl, ?_⟩)
  | (refine And.intro (by walk_at "num") ?_)))
def topS (i : Nat) : Stmt := PySem.Challenge.pw_slitstairs_k19_whole_layers_and_touching.main.body.getD i (.Pass ⟨0, 0, 0, 0⟩)
namespace Vv
def Out (B : Tb) (E : XK) (Q : VK) (Z H : Hp) (r : R D) : Prop := match r with
  | .ok d _ => ∀ v Z' H', Step Z H Z' H' → Rp B Z' v d → Q v H'
  | .exc c fs _ => ExE B E Z H (Step Z H) c fs
  | .bad => False
theorem Out.step {B : Tb} {E : XK} {Q : VK} {Z H Z1 H1 : Hp} {r : R D} (h : Out B E Q Z H r) (t : Step Z H Z1 H1) : Out B E Q Z1 H1 r := by
  cases r with
  | bad => exact h
  | ok d _ => exact fun v Z' H' t2 rv => h v Z' H' (t.trans t2) rv
  | exc c fs _ => exact fun d vs Z' H' t2 e l rs => h d vs Z' H' (t.trans t2) e l rs
end Vv
namespace Vv
section
variable {B : Tb} {u : Option (Addr × Value × Option Addr)} {X : Cx} {W : WX} {pos : Pos} {e o ke : Expr} {es : List Expr} {fa : Af} {fo fk : Ef} {k : Nat} {f p g : Addr} {mn kn : Str} {apos kpos : Pos} {mc : Value}
/-- o.m(e, .., k = v) -/
def eMethK (c : Nat) (F : D → List D → R D) (fo : Ef) (fa : Af) (fk : Ef) : Ef := fun ρ s => (fo ρ s).bind fun x s1 => if isC c x then (fa ρ s1).bind fun ds s2 => (fk ρ s2).bind fun m s3 => pickP (F m) (x :: ds) s3 else .bad
end
end Vv
abbrev s_is_number : Stmt := topS 12
abbrev N_is_number : List Str := ["thing"]
abbrev P_is_number : List Str := ["thing"]
theorem sc_is_number : FnScope N_is_number P_is_number (defScope s_is_number) := ⟨rfl, rfl, rfl, by decide +kernel, rfl, by decide +kernel, by decide +kernel⟩
abbrev s_is_whole : Stmt := topS 13
abbrev N_is_whole : List Str := ["thing", "low", "high"]
abbrev P_is_whole : List Str := ["thing", "low", "high"]
theorem sc_is_whole : FnScope N_is_whole P_is_whole (defScope s_is_whole) := ⟨rfl, rfl, rfl, by decide +kernel, rfl, by decide +kernel, by decide +kernel⟩
abbrev s_is_sequence : Stmt := topS 14
abbrev N_is_sequence : List Str := ["thing"]
abbrev P_is_sequence : List Str := ["thing"]
theorem sc_is_sequence : FnScope N_is_sequence P_is_sequence (defScope s_is_sequence) := ⟨rfl, rfl, rfl, by decide +kernel, rfl, by decide +kernel, by decide +kernel⟩
abbrev s_word_fault : Stmt := topS 15
abbrev N_word_fault : List Str := ["thing", "boundary", "ahead", "letter"]
abbrev P_word_fault : List Str := ["thing"]
theorem sc_word_fault : FnScope N_word_fault P_word_fault (defScope s_word_fault) := ⟨rfl, rfl, rfl, by decide +kernel, rfl, by decide +kernel, by decide +kernel⟩
abbrev s_common_steps : Stmt := topS 16
abbrev P_common_steps : List Str := ["one", "other"]
abbrev s_check_columns : Stmt := topS 20
abbrev N_check_columns : List Str := ["columns", "index", "column"]
abbrev P_check_columns : List Str := ["columns"]
theorem sc_check_columns : FnScope N_check_columns P_check_columns (defScope s_check_columns) := ⟨rfl, rfl, rfl, by decide +kernel, rfl, by decide +kernel, by decide +kernel⟩
abbrev s_mark_of : Stmt := topS 21
abbrev N_mark_of : List Str := ["thing", "size", "width", "c", "t"]
abbrev P_mark_of : List Str := ["thing", "size", "width"]
theorem sc_mark_of : FnScope N_mark_of P_mark_of (defScope s_mark_of) := ⟨rfl, rfl, rfl, by decide +kernel, rfl, by decide +kernel, by decide +kernel⟩
abbrev s_new_marks : Stmt := topS 22
abbrev N_new_marks : List Str := ["marks", "size", "width", "taken", "found", "index", "thing", "mark"]
abbrev P_new_marks : List Str := ["marks", "size", "width", "taken"]
theorem sc_new_marks : FnScope N_new_marks P_new_marks (defScope s_new_marks) := ⟨rfl, rfl, rfl, by decide +kernel, rfl, by decide +kernel, by decide +kernel⟩
abbrev s_check_column : Stmt := topS 25
abbrev N_check_column : List Str := ["card", "c"]
abbrev P_check_column : List Str := ["card", "c"]
theorem sc_check_column : FnScope N_check_column P_check_column (defScope s_check_column) := ⟨rfl, rfl, rfl, by decide +kernel, rfl, by decide +kernel, by decide +kernel⟩
abbrev s_check_layer : Stmt := topS 27
abbrev N_check_layer : List Str := ["card", "c", "k"]
abbrev P_check_layer : List Str := ["card", "c", "k"]
theorem sc_check_layer : FnScope N_check_layer P_check_layer (defScope s_check_layer) := ⟨rfl, rfl, rfl, by decide +kernel, rfl, by decide +kernel, by decide +kernel⟩
abbrev s_step_layers : Stmt := topS 28
abbrev N_step_layers : List Str := ["column", "height", "other"]
abbrev P_step_layers : List Str := ["column"]
theorem sc_step_layers : FnScope N_step_layers P_step_layers (defScope s_step_layers) := ⟨rfl, rfl, rfl, by decide +kernel, rfl, by decide +kernel, by decide +kernel⟩
abbrev s_layer_of : Stmt := topS 29
abbrev N_layer_of : List Str := ["card", "c", "t"]
abbrev P_layer_of : List Str := ["card", "c", "t"]
theorem sc_layer_of : FnScope N_layer_of P_layer_of (defScope s_layer_of) := ⟨rfl, rfl, rfl, by decide +kernel, rfl, by decide +kernel, by decide +kernel⟩
abbrev s_layer_steps : Stmt := topS 30
abbrev N_layer_steps : List Str := ["card", "c", "k", "t", "layer"]
abbrev P_layer_steps : List Str := ["card", "c", "k"]
theorem sc_layer_steps : FnScope N_layer_steps P_layer_steps (defScope s_layer_steps) := ⟨rfl, rfl, rfl, by decide +kernel, rfl, by decide +kernel, by decide +kernel⟩
abbrev s_middle_of : Stmt := topS 31
abbrev N_middle_of : List Str := ["column", "t", "x", "y"]
abbrev P_middle_of : List Str := ["column", "t"]
theorem sc_middle_of : FnScope N_middle_of P_middle_of (defScope s_middle_of) := ⟨rfl, rfl, rfl, by decide +kernel, rfl, by decide +kernel, by decide +kernel⟩
abbrev s_middles : Stmt := topS 32
abbrev N_middles : List Str := ["card", "c", "k", "t"]
abbrev P_middles : List Str := ["card", "c", "k"]
theorem sc_middles : FnScope N_middles P_middles (defScope s_middles) := ⟨rfl, rfl, rfl, by decide +kernel, rfl, by decide +kernel, by decide +kernel⟩
abbrev s_thickness : Stmt := topS 33
abbrev N_thickness : List Str := ["card", "c", "k"]
abbrev P_thickness : List Str := ["card", "c", "k"]
theorem sc_thickness : FnScope N_thickness P_thickness (defScope s_thickness) := ⟨rfl, rfl, rfl, by decide +kernel, rfl, by decide +kernel, by decide +kernel⟩
abbrev s_touching : Stmt := topS 34
abbrev N_touching : List Str := ["card", "c", "k", "steps", "word", "t", "other"]
abbrev P_touching : List Str := ["card", "c", "k"]
theorem sc_touching : FnScope N_touching P_touching (defScope s_touching) := ⟨rfl, rfl, rfl, by decide +kernel, rfl, by decide +kernel, by decide +kernel⟩
abbrev s_l_mix : Stmt := topS 36
abbrev N_l_mix : List Str := ["_law_number_here", "_law_turn", "_law_once", "_law_twice"]
abbrev P_l_mix : List Str := ["_law_number_here", "_law_turn"]
theorem sc_l_mix : FnScope N_l_mix P_l_mix (defScope s_l_mix) := ⟨rfl, rfl, rfl, by decide +kernel, rfl, by decide +kernel, by decide +kernel⟩
abbrev s_l_hand : Stmt := topS 37
abbrev N_l_hand : List Str := ["_law_script", "_law_total", "_law_k", "_law_cell"]
abbrev P_l_hand : List Str := ["_law_script"]
theorem sc_l_hand : FnScope N_l_hand P_l_hand (defScope s_l_hand) := ⟨rfl, rfl, rfl, by decide +kernel, rfl, by decide +kernel, by decide +kernel⟩
abbrev s_l_draw : Stmt := topS 38
abbrev N_l_draw : List Str := ["_law_hand_here", "_law_many", "_law_cell", "_law_rest"]
abbrev P_l_draw : List Str := ["_law_hand_here", "_law_many"]
theorem sc_l_draw : FnScope N_l_draw P_l_draw (defScope s_l_draw) := ⟨rfl, rfl, rfl, by decide +kernel, rfl, by decide +kernel, by decide +kernel⟩
abbrev s_l_word : Stmt := topS 39
abbrev N_l_word : List Str := ["_law_hand_here", "_law_size", "_law_word_here", "_law_height", "_law_t", "_law_may_out", "_law_may_down"]
abbrev P_l_word : List Str := ["_law_hand_here", "_law_size"]
theorem sc_l_word : FnScope N_l_word P_l_word (defScope s_l_word) := ⟨rfl, rfl, rfl, by decide +kernel, rfl, by decide +kernel, by decide +kernel⟩
abbrev s_l_near : Stmt := topS 40
abbrev N_l_near : List Str := ["_law_hand_here", "_law_word_here", "_law_t", "_law_turned", "_law_height", "_law_letter"]
abbrev P_l_near : List Str := ["_law_hand_here", "_law_word_here"]
theorem sc_l_near : FnScope N_l_near P_l_near (defScope s_l_near) := ⟨rfl, rfl, rfl, by decide +kernel, rfl, by decide +kernel, by decide +kernel⟩
abbrev s_l_words : Stmt := topS 41
abbrev N_l_words : List Str := ["_law_hand_here", "_law_size", "_law_width", "_law_words_here", "_law_k", "_law_way"]
abbrev P_l_words : List Str := ["_law_hand_here", "_law_size", "_law_width"]
theorem sc_l_words : FnScope N_l_words P_l_words (defScope s_l_words) := ⟨rfl, rfl, rfl, by decide +kernel, rfl, by decide +kernel, by decide +kernel⟩
abbrev s_l_heights : Stmt := topS 42
abbrev N_l_heights : List Str := ["_law_word_here", "_law_heights_here", "_law_letter"]
abbrev P_l_heights : List Str := ["_law_word_here"]
theorem sc_l_heights : FnScope N_l_heights P_l_heights (defScope s_l_heights) := ⟨rfl, rfl, rfl, by decide +kernel, rfl, by decide +kernel, by decide +kernel⟩
abbrev s_l_common : Stmt := topS 43
abbrev N_l_common : List Str := ["_law_one", "_law_other", "_law_high", "_law_low", "_law_t"]
abbrev P_l_common : List Str := ["_law_one", "_law_other"]
theorem sc_l_common : FnScope N_l_common P_l_common (defScope s_l_common) := ⟨rfl, rfl, rfl, by decide +kernel, rfl, by decide +kernel, by decide +kernel⟩
abbrev s_l_pick : Stmt := topS 44
abbrev N_l_pick : List Str := ["_law_hand_here", "_law_some"]
abbrev P_l_pick : List Str := ["_law_hand_here", "_law_some"]
theorem sc_l_pick : FnScope N_l_pick P_l_pick (defScope s_l_pick) := ⟨rfl, rfl, rfl, by decide +kernel, rfl, by decide +kernel, by decide +kernel⟩
abbrev s_l_sizes : Stmt := topS 45
abbrev N_l_sizes : List Str := ["_law_hand_here", "_law_size"]
abbrev P_l_sizes : List Str := ["_law_hand_here"]
theorem sc_l_sizes : FnScope N_l_sizes P_l_sizes (defScope s_l_sizes) := ⟨rfl, rfl, rfl, by decide +kernel, rfl, by decide +kernel, by decide +kernel⟩
abbrev s_l_slits : Stmt := topS 46
abbrev N_l_slits : List Str := ["_law_hand_here", "_law_words_here", "_law_marks", "_law_size", "_law_width", "_law_k", "_law_c", "_law_t", "_law_inner"]
abbrev P_l_slits : List Str := ["_law_hand_here", "_law_words_here"]
theorem sc_l_slits : FnScope N_l_slits P_l_slits (defScope s_l_slits) := ⟨rfl, rfl, rfl, by decide +kernel, rfl, by decide +kernel, by decide +kernel⟩
abbrev s_l_card : Stmt := topS 47
abbrev N_l_card : List Str := ["_law_words_here", "_law_marks", "_law_word_here"]
abbrev P_l_card : List Str := ["_law_words_here", "_law_marks"]
theorem sc_l_card : FnScope N_l_card P_l_card (defScope s_l_card) := ⟨rfl, rfl, rfl, by decide +kernel, rfl, by decide +kernel, by decide +kernel⟩
abbrev s_l_number : Stmt := topS 48
abbrev N_l_number : List Str := ["_law_answer", "_law_due"]
abbrev P_l_number : List Str := ["_law_answer", "_law_due"]
theorem sc_l_number : FnScope N_l_number P_l_number (defScope s_l_number) := ⟨rfl, rfl, rfl, by decide +kernel, rfl, by decide +kernel, by decide +kernel⟩
abbrev s_l_rows : Stmt := topS 49
abbrev N_l_rows : List Str := ["_law_answer", "_law_due", "_law_one", "_law_other"]
abbrev P_l_rows : List Str := ["_law_answer", "_law_due"]
theorem sc_l_rows : FnScope N_l_rows P_l_rows (defScope s_l_rows) := ⟨rfl, rfl, rfl, by decide +kernel, rfl, by decide +kernel, by decide +kernel⟩
abbrev s_l_place : Stmt := topS 50
abbrev N_l_place : List Str := ["_law_word_here", "_law_t"]
abbrev P_l_place : List Str := ["_law_word_here", "_law_t"]
theorem sc_l_place : FnScope N_l_place P_l_place (defScope s_l_place) := ⟨rfl, rfl, rfl, by decide +kernel, rfl, by decide +kernel, by decide +kernel⟩
abbrev s_l_steps : Stmt := topS 51
abbrev N_l_steps : List Str := ["_law_word_here", "_law_k", "_law_heights_here", "_law_far", "_law_t"]
abbrev P_l_steps : List Str := ["_law_word_here", "_law_k"]
theorem sc_l_steps : FnScope N_l_steps P_l_steps (defScope s_l_steps) := ⟨rfl, rfl, rfl, by decide +kernel, rfl, by decide +kernel, by decide +kernel⟩
abbrev s_l_fault : Stmt := topS 52
abbrev N_l_fault : List Str := ["_law_way", "_law_card_here", "_law_c", "_law_k", "e"]
abbrev P_l_fault : List Str := ["_law_way", "_law_card_here", "_law_c", "_law_k"]
theorem sc_l_fault : FnScope N_l_fault P_l_fault (defScope s_l_fault) := ⟨rfl, rfl, rfl, by decide +kernel, rfl, by decide +kernel, by decide +kernel⟩
abbrev s_l_middles : Stmt := topS 53
abbrev N_l_middles : List Str := ["_law_word_here", "_law_steps_here", "_law_found", "_law_t", "_law_one", "_law_other"]
abbrev P_l_middles : List Str := ["_law_word_here", "_law_steps_here"]
theorem sc_l_middles : FnScope N_l_middles P_l_middles (defScope s_l_middles) := ⟨rfl, rfl, rfl, by decide +kernel, rfl, by decide +kernel, by decide +kernel⟩
abbrev s_l_touching : Stmt := topS 54
abbrev N_l_touching : List Str := ["_law_word_here", "_law_steps_here", "_law_found", "_law_at"]
abbrev P_l_touching : List Str := ["_law_word_here", "_law_steps_here"]
theorem sc_l_touching : FnScope N_l_touching P_l_touching (defScope s_l_touching) := ⟨rfl, rfl, rfl, by decide +kernel, rfl, by decide +kernel, by decide +kernel⟩
abbrev s_l_layer_right : Stmt := topS 55
abbrev N_l_layer_right : List Str := ["_law_card_here", "_law_word_here", "_law_c", "_law_k", "_law_steps_here", "_law_told", "_law_points", "_law_at", "_law_point", "_law_t"]
abbrev P_l_layer_right : List Str := ["_law_card_here", "_law_word_here", "_law_c", "_law_k"]
theorem sc_l_layer_right : FnScope N_l_layer_right P_l_layer_right (defScope s_l_layer_right) := ⟨rfl, rfl, rfl, by decide +kernel, rfl, by decide +kernel, by decide +kernel⟩
abbrev s_law : Stmt := topS 56
abbrev N_law : List Str := ["_law_script", "_law_hand_here", "_law_size", "_law_width", "_law_words_here", "_law_marks", "_law_card_here", "_law_plain", "_law_c", "_law_seen", "_law_k", "_law_t", "_law_odd", "_law_late", "_law_way"]
abbrev P_law : List Str := ["_law_script"]
theorem sc_law : FnScope N_law P_law (defScope s_law) := ⟨rfl, rfl, rfl, by decide +kernel, rfl, by decide +kernel, by decide +kernel⟩
abbrev s_NoColumn___init__ : Stmt := inClass (topS 4) 0
abbrev N_NoColumn___init__ : List Str := ["self", "column"]
abbrev P_NoColumn___init__ : List Str := ["self", "column"]
theorem sc_NoColumn___init__ : FnScope N_NoColumn___init__ P_NoColumn___init__ (defScope s_NoColumn___init__) := ⟨rfl, rfl, rfl, by decide +kernel, rfl, by decide +kernel, by decide +kernel⟩
abbrev s_BadColumn___init__ : Stmt := inClass (topS 5) 0
abbrev N_BadColumn___init__ : List Str := ["self", "what"]
abbrev P_BadColumn___init__ : List Str := ["self", "what"]
theorem sc_BadColumn___init__ : FnScope N_BadColumn___init__ P_BadColumn___init__ (defScope s_BadColumn___init__) := ⟨rfl, rfl, rfl, by decide +kernel, rfl, by decide +kernel, by decide +kernel⟩
abbrev s_BadBoundary___init__ : Stmt := inClass (topS 6) 0
abbrev N_BadBoundary___init__ : List Str := ["self", "boundary"]
abbrev P_BadBoundary___init__ : List Str := ["self", "boundary"]
theorem sc_BadBoundary___init__ : FnScope N_BadBoundary___init__ P_BadBoundary___init__ (defScope s_BadBoundary___init__) := ⟨rfl, rfl, rfl, by decide +kernel, rfl, by decide +kernel, by decide +kernel⟩
abbrev s_BadCard___init__ : Stmt := inClass (topS 7) 0
abbrev N_BadCard___init__ : List Str := ["self", "index", "what"]
abbrev P_BadCard___init__ : List Str := ["self", "index", "what"]
theorem sc_BadCard___init__ : FnScope N_BadCard___init__ P_BadCard___init__ (defScope s_BadCard___init__) := ⟨rfl, rfl, rfl, by decide +kernel, rfl, by decide +kernel, by decide +kernel⟩
abbrev s_BadPlace___init__ : Stmt := inClass (topS 8) 0
abbrev N_BadPlace___init__ : List Str := ["self", "column", "step"]
abbrev P_BadPlace___init__ : List Str := ["self", "column", "step"]
theorem sc_BadPlace___init__ : FnScope N_BadPlace___init__ P_BadPlace___init__ (defScope s_BadPlace___init__) := ⟨rfl, rfl, rfl, by decide +kernel, rfl, by decide +kernel, by decide +kernel⟩
abbrev s_NoLayer___init__ : Stmt := inClass (topS 9) 0
abbrev N_NoLayer___init__ : List Str := ["self", "layer"]
abbrev P_NoLayer___init__ : List Str := ["self", "layer"]
theorem sc_NoLayer___init__ : FnScope N_NoLayer___init__ P_NoLayer___init__ (defScope s_NoLayer___init__) := ⟨rfl, rfl, rfl, by decide +kernel, rfl, by decide +kernel, by decide +kernel⟩
abbrev s_Column___init__ : Stmt := inClass (topS 17) 0
abbrev N_Column___init__ : List Str := ["self", "word", "fault"]
abbrev P_Column___init__ : List Str := ["self", "word"]
theorem sc_Column___init__ : FnScope N_Column___init__ P_Column___init__ (defScope s_Column___init__) := ⟨rfl, rfl, rfl, by decide +kernel, rfl, by decide +kernel, by decide +kernel⟩
abbrev s_Column_many : Stmt := inClass (topS 17) 2
abbrev N_Column_many : List Str := ["self", "letter", "boundary"]
abbrev P_Column_many : List Str := ["self", "letter", "boundary"]
theorem sc_Column_many : FnScope N_Column_many P_Column_many (defScope s_Column_many) := ⟨rfl, rfl, rfl, by decide +kernel, rfl, by decide +kernel, by decide +kernel⟩
abbrev s_Column_place : Stmt := inClass (topS 17) 3
abbrev N_Column_place : List Str := ["self", "boundary"]
abbrev P_Column_place : List Str := ["self", "boundary"]
theorem sc_Column_place : FnScope N_Column_place P_Column_place (defScope s_Column_place) := ⟨rfl, rfl, rfl, by decide +kernel, rfl, by decide +kernel, by decide +kernel⟩
abbrev s_Column_height : Stmt := inClass (topS 17) 4
abbrev P_Column_height : List Str := ["self", "boundary"]
abbrev s_Column_heights : Stmt := inClass (topS 17) 6
abbrev N_Column_heights : List Str := ["self", "found", "letter"]
abbrev P_Column_heights : List Str := ["self"]
theorem sc_Column_heights : FnScope N_Column_heights P_Column_heights (defScope s_Column_heights) := ⟨rfl, rfl, rfl, by decide +kernel, rfl, by decide +kernel, by decide +kernel⟩
abbrev s_Column___eq__ : Stmt := inClass (topS 17) 12
abbrev P_Column___eq__ : List Str := ["self", "other"]
abbrev s_Column___str__ : Stmt := inClass (topS 17) 13
abbrev P_Column___str__ : List Str := ["self"]
abbrev s_Column___len__ : Stmt := inClass (topS 17) 14
abbrev P_Column___len__ : List Str := ["self"]
abbrev s_Column___iter__ : Stmt := inClass (topS 17) 15
abbrev P_Column___iter__ : List Str := ["self"]
abbrev s_Card___init__ : Stmt := inClass (topS 23) 0
abbrev N_Card___init__ : List Str := ["self", "columns", "marks", "column"]
abbrev P_Card___init__ : List Str := ["self", "columns", "marks"]
theorem sc_Card___init__ : FnScope N_Card___init__ P_Card___init__ (defScope s_Card___init__) := ⟨rfl, rfl, rfl, by decide +kernel, rfl, by decide +kernel, by decide +kernel⟩
abbrev s_Card_common : Stmt := inClass (topS 23) 2
abbrev P_Card_common : List Str := ["self", "c"]
abbrev s_Card___eq__ : Stmt := inClass (topS 23) 15
abbrev P_Card___eq__ : List Str := ["self", "other"]
abbrev s_Card___len__ : Stmt := inClass (topS 23) 16
abbrev P_Card___len__ : List Str := ["self"]
abbrev s_Card___iter__ : Stmt := inClass (topS 23) 17
abbrev P_Card___iter__ : List Str := ["self"]
structure Ads where
  f_is_number : Addr
  d_is_number : FuncData
  f_is_whole : Addr
  d_is_whole : FuncData
  f_is_sequence : Addr
  d_is_sequence : FuncData
  f_word_fault : Addr
  d_word_fault : FuncData
  f_common_steps : Addr
  d_common_steps : FuncData
  f_check_columns : Addr
  d_check_columns : FuncData
  f_mark_of : Addr
  d_mark_of : FuncData
  f_new_marks : Addr
  d_new_marks : FuncData
  f_check_column : Addr
  d_check_column : FuncData
  f_check_layer : Addr
  d_check_layer : FuncData
  f_step_layers : Addr
  d_step_layers : FuncData
  f_layer_of : Addr
  d_layer_of : FuncData
  f_layer_steps : Addr
  d_layer_steps : FuncData
  f_middle_of : Addr
  d_middle_of : FuncData
  f_middles : Addr
  d_middles : FuncData
  f_thickness : Addr
  d_thickness : FuncData
  f_touching : Addr
  d_touching : FuncData
  f_l_mix : Addr
  d_l_mix : FuncData
  f_l_hand : Addr
  d_l_hand : FuncData
  f_l_draw : Addr
  d_l_draw : FuncData
  f_l_word : Addr
  d_l_word : FuncData
  f_l_near : Addr
  d_l_near : FuncData
  f_l_words : Addr
  d_l_words : FuncData
  f_l_heights : Addr
  d_l_heights : FuncData
  f_l_common : Addr
  d_l_common : FuncData
  f_l_pick : Addr
  d_l_pick : FuncData
  f_l_sizes : Addr
  d_l_sizes : FuncData
  f_l_slits : Addr
  d_l_slits : FuncData
  f_l_card : Addr
  d_l_card : FuncData
  f_l_number : Addr
  d_l_number : FuncData
  f_l_rows : Addr
  d_l_rows : FuncData
  f_l_place : Addr
  d_l_place : FuncData
  f_l_steps : Addr
  d_l_steps : FuncData
  f_l_fault : Addr
  d_l_fault : FuncData
  f_l_middles : Addr
  d_l_middles : FuncData
  f_l_touching : Addr
  d_l_touching : FuncData
  f_l_layer_right : Addr
  d_l_layer_right : FuncData
  f_law : Addr
  d_law : FuncData
  f_NoColumn___init__ : Addr
  d_NoColumn___init__ : FuncData
  f_BadColumn___init__ : Addr
  d_BadColumn___init__ : FuncData
  f_BadBoundary___init__ : Addr
  d_BadBoundary___init__ : FuncData
  f_BadCard___init__ : Addr
  d_BadCard___init__ : FuncData
  f_BadPlace___init__ : Addr
  d_BadPlace___init__ : FuncData
  f_NoLayer___init__ : Addr
  d_NoLayer___init__ : FuncData
  f_Column___init__ : Addr
  d_Column___init__ : FuncData
  f_Column_many : Addr
  d_Column_many : FuncData
  f_Column_place : Addr
  d_Column_place : FuncData
  f_Column_height : Addr
  d_Column_height : FuncData
  f_Column_heights : Addr
  d_Column_heights : FuncData
  f_Column___eq__ : Addr
  d_Column___eq__ : FuncData
  f_Column___str__ : Addr
  d_Column___str__ : FuncData
  f_Column___len__ : Addr
  d_Column___len__ : FuncData
  f_Column___iter__ : Addr
  d_Column___iter__ : FuncData
  f_Card___init__ : Addr
  d_Card___init__ : FuncData
  f_Card_common : Addr
  d_Card_common : FuncData
  f_Card___eq__ : Addr
  d_Card___eq__ : FuncData
  f_Card___len__ : Addr
  d_Card___len__ : FuncData
  f_Card___iter__ : Addr
  d_Card___iter__ : FuncData
  C_CardError : Addr
  C_NoColumn : Addr
  C_BadColumn : Addr
  C_BadBoundary : Addr
  C_BadCard : Addr
  C_BadPlace : Addr
  C_NoLayer : Addr
  C_Column : Addr
  C_Card : Addr
  p_Column_heights : Addr
structure Top (K : PySem.W.Frag) (mg : Str → Option Value) (A : Ads) : Prop where
  D_is_number : DefAt K mg "is_number" s_is_number P_is_number A.f_is_number A.d_is_number
  D_is_whole : DefAt K mg "is_whole" s_is_whole P_is_whole A.f_is_whole A.d_is_whole
  D_is_sequence : DefAt K mg "is_sequence" s_is_sequence P_is_sequence A.f_is_sequence A.d_is_sequence
  D_word_fault : DefAt K mg "word_fault" s_word_fault P_word_fault A.f_word_fault A.d_word_fault
  D_common_steps : DefAt K mg "common_steps" s_common_steps P_common_steps A.f_common_steps A.d_common_steps
  D_check_columns : DefAt K mg "check_columns" s_check_columns P_check_columns A.f_check_columns A.d_check_columns
  D_mark_of : DefAt K mg "mark_of" s_mark_of P_mark_of A.f_mark_of A.d_mark_of
  D_new_marks : DefAt K mg "new_marks" s_new_marks P_new_marks A.f_new_marks A.d_new_marks
  D_check_column : DefAt K mg "check_column" s_check_column P_check_column A.f_check_column A.d_check_column
  D_check_layer : DefAt K mg "check_layer" s_check_layer P_check_layer A.f_check_layer A.d_check_layer
  D_step_layers : DefAt K mg "step_layers" s_step_layers P_step_layers A.f_step_layers A.d_step_layers
  D_layer_of : DefAt K mg "layer_of" s_layer_of P_layer_of A.f_layer_of A.d_layer_of
  D_layer_steps : DefAt K mg "layer_steps" s_layer_steps P_layer_steps A.f_layer_steps A.d_layer_steps
  D_middle_of : DefAt K mg "middle_of" s_middle_of P_middle_of A.f_middle_of A.d_middle_of
  D_middles : DefAt K mg "middles" s_middles P_middles A.f_middles A.d_middles
  D_thickness : DefAt K mg "thickness" s_thickness P_thickness A.f_thickness A.d_thickness
  D_touching : DefAt K mg "touching" s_touching P_touching A.f_touching A.d_touching
  D_l_mix : DefAt K mg "_law_mix" s_l_mix P_l_mix A.f_l_mix A.d_l_mix
  D_l_hand : DefAt K mg "_law_hand" s_l_hand P_l_hand A.f_l_hand A.d_l_hand
  D_l_draw : DefAt K mg "_law_draw" s_l_draw P_l_draw A.f_l_draw A.d_l_draw
  D_l_word : DefAt K mg "_law_word" s_l_word P_l_word A.f_l_word A.d_l_word
  D_l_near : DefAt K mg "_law_near" s_l_near P_l_near A.f_l_near A.d_l_near
  D_l_words : DefAt K mg "_law_words" s_l_words P_l_words A.f_l_words A.d_l_words
  D_l_heights : DefAt K mg "_law_heights" s_l_heights P_l_heights A.f_l_heights A.d_l_heights
  D_l_common : DefAt K mg "_law_common" s_l_common P_l_common A.f_l_common A.d_l_common
  D_l_pick : DefAt K mg "_law_pick" s_l_pick P_l_pick A.f_l_pick A.d_l_pick
  D_l_sizes : DefAt K mg "_law_sizes" s_l_sizes P_l_sizes A.f_l_sizes A.d_l_sizes
  D_l_slits : DefAt K mg "_law_slits" s_l_slits P_l_slits A.f_l_slits A.d_l_slits
  D_l_card : DefAt K mg "_law_card" s_l_card P_l_card A.f_l_card A.d_l_card
  D_l_number : DefAt K mg "_law_number" s_l_number P_l_number A.f_l_number A.d_l_number
  D_l_rows : DefAt K mg "_law_rows" s_l_rows P_l_rows A.f_l_rows A.d_l_rows
  D_l_place : DefAt K mg "_law_place" s_l_place P_l_place A.f_l_place A.d_l_place
  D_l_steps : DefAt K mg "_law_steps" s_l_steps P_l_steps A.f_l_steps A.d_l_steps
  D_l_fault : DefAt K mg "_law_fault" s_l_fault P_l_fault A.f_l_fault A.d_l_fault
  D_l_middles : DefAt K mg "_law_middles" s_l_middles P_l_middles A.f_l_middles A.d_l_middles
  D_l_touching : DefAt K mg "_law_touching" s_l_touching P_l_touching A.f_l_touching A.d_l_touching
  D_l_layer_right : DefAt K mg "_law_layer_right" s_l_layer_right P_l_layer_right A.f_l_layer_right A.d_l_layer_right
  D_law : DefAt K mg "law" s_law P_law A.f_law A.d_law
  D_NoColumn___init__ : MetAt K "__init__" "NoColumn.__init__" s_NoColumn___init__ P_NoColumn___init__ A.f_NoColumn___init__ A.d_NoColumn___init__
  D_BadColumn___init__ : MetAt K "__init__" "BadColumn.__init__" s_BadColumn___init__ P_BadColumn___init__ A.f_BadColumn___init__ A.d_BadColumn___init__
  D_BadBoundary___init__ : MetAt K "__init__" "BadBoundary.__init__" s_BadBoundary___init__ P_BadBoundary___init__ A.f_BadBoundary___init__ A.d_BadBoundary___init__
  D_BadCard___init__ : MetAt K "__init__" "BadCard.__init__" s_BadCard___init__ P_BadCard___init__ A.f_BadCard___init__ A.d_BadCard___init__
  D_BadPlace___init__ : MetAt K "__init__" "BadPlace.__init__" s_BadPlace___init__ P_BadPlace___init__ A.f_BadPlace___init__ A.d_BadPlace___init__
  D_NoLayer___init__ : MetAt K "__init__" "NoLayer.__init__" s_NoLayer___init__ P_NoLayer___init__ A.f_NoLayer___init__ A.d_NoLayer___init__
  D_Column___init__ : MetAt K "__init__" "Column.__init__" s_Column___init__ P_Column___init__ A.f_Column___init__ A.d_Column___init__
  D_Column_many : MetAt K "many" "Column.many" s_Column_many P_Column_many A.f_Column_many A.d_Column_many
  D_Column_place : MetAt K "place" "Column.place" s_Column_place P_Column_place A.f_Column_place A.d_Column_place
  D_Column_height : MetAt K "height" "Column.height" s_Column_height P_Column_height A.f_Column_height A.d_Column_height
  D_Column_heights : MetAt K "heights" "Column.heights" s_Column_heights P_Column_heights A.f_Column_heights A.d_Column_heights
  D_Column___eq__ : MetAt K "__eq__" "Column.__eq__" s_Column___eq__ P_Column___eq__ A.f_Column___eq__ A.d_Column___eq__
  D_Column___str__ : MetAt K "__str__" "Column.__str__" s_Column___str__ P_Column___str__ A.f_Column___str__ A.d_Column___str__
  D_Column___len__ : MetAt K "__len__" "Column.__len__" s_Column___len__ P_Column___len__ A.f_Column___len__ A.d_Column___len__
  D_Column___iter__ : MetAt K "__iter__" "Column.__iter__" s_Column___iter__ P_Column___iter__ A.f_Column___iter__ A.d_Column___iter__
  D_Card___init__ : MetAtD K "__init__" "Card.__init__" s_Card___init__ P_Card___init__ A.f_Card___init__ A.d_Card___init__
  E_Card___init__ : Vv.Dflt0 K A.d_Card___init__ P_Card___init__
  D_Card_common : MetAt K "common" "Card.common" s_Card_common P_Card_common A.f_Card_common A.d_Card_common
  D_Card___eq__ : MetAt K "__eq__" "Card.__eq__" s_Card___eq__ P_Card___eq__ A.f_Card___eq__ A.d_Card___eq__
  D_Card___len__ : MetAt K "__len__" "Card.__len__" s_Card___len__ P_Card___len__ A.f_Card___len__ A.d_Card___len__
  D_Card___iter__ : MetAt K "__iter__" "Card.__iter__" s_Card___iter__ P_Card___iter__ A.f_Card___iter__ A.d_Card___iter__
  g_CardError : mg "CardError" = some (.ref A.C_CardError)
  x_NoColumn : ExC K mg "NoColumn" A.C_NoColumn A.f_NoColumn___init__
  q_NoColumn : ExcC K A.C_NoColumn
  is_NoColumn_CardError : PySem.W.kitOne K (.ref A.C_NoColumn) (.ref A.C_CardError) = some true
  g_NoColumn : mg "NoColumn" = some (.ref A.C_NoColumn)
  n_NoColumn_column : PySem.W.findIn K (.ref A.C_NoColumn) "column" = some none
  ex_NoColumn_NoColumn : PySem.W.exmOne K (.ref A.C_NoColumn) (.ref A.C_NoColumn) = some true
  ex_NoColumn_NoLayer : PySem.W.exmOne K (.ref A.C_NoColumn) (.ref A.C_NoLayer) = some false
  up_NoColumn_CardError : PySem.W.exmOne K (.ref A.C_NoColumn) (.ref A.C_CardError) = some true
  x_BadColumn : ExC K mg "BadColumn" A.C_BadColumn A.f_BadColumn___init__
  q_BadColumn : ExcC K A.C_BadColumn
  is_BadColumn_CardError : PySem.W.kitOne K (.ref A.C_BadColumn) (.ref A.C_CardError) = some true
  g_BadColumn : mg "BadColumn" = some (.ref A.C_BadColumn)
  n_BadColumn_what : PySem.W.findIn K (.ref A.C_BadColumn) "what" = some none
  ex_BadColumn_NoColumn : PySem.W.exmOne K (.ref A.C_BadColumn) (.ref A.C_NoColumn) = some false
  ex_BadColumn_NoLayer : PySem.W.exmOne K (.ref A.C_BadColumn) (.ref A.C_NoLayer) = some false
  up_BadColumn_CardError : PySem.W.exmOne K (.ref A.C_BadColumn) (.ref A.C_CardError) = some true
  x_BadBoundary : ExC K mg "BadBoundary" A.C_BadBoundary A.f_BadBoundary___init__
  q_BadBoundary : ExcC K A.C_BadBoundary
  is_BadBoundary_CardError : PySem.W.kitOne K (.ref A.C_BadBoundary) (.ref A.C_CardError) = some true
  g_BadBoundary : mg "BadBoundary" = some (.ref A.C_BadBoundary)
  n_BadBoundary_boundary : PySem.W.findIn K (.ref A.C_BadBoundary) "boundary" = some none
  ex_BadBoundary_NoColumn : PySem.W.exmOne K (.ref A.C_BadBoundary) (.ref A.C_NoColumn) = some false
  ex_BadBoundary_NoLayer : PySem.W.exmOne K (.ref A.C_BadBoundary) (.ref A.C_NoLayer) = some false
  up_BadBoundary_CardError : PySem.W.exmOne K (.ref A.C_BadBoundary) (.ref A.C_CardError) = some true
  x_BadCard : ExC K mg "BadCard" A.C_BadCard A.f_BadCard___init__
  q_BadCard : ExcC K A.C_BadCard
  is_BadCard_CardError : PySem.W.kitOne K (.ref A.C_BadCard) (.ref A.C_CardError) = some true
  g_BadCard : mg "BadCard" = some (.ref A.C_BadCard)
  n_BadCard_index : PySem.W.findIn K (.ref A.C_BadCard) "index" = some none
  n_BadCard_what : PySem.W.findIn K (.ref A.C_BadCard) "what" = some none
  ex_BadCard_NoColumn : PySem.W.exmOne K (.ref A.C_BadCard) (.ref A.C_NoColumn) = some false
  ex_BadCard_NoLayer : PySem.W.exmOne K (.ref A.C_BadCard) (.ref A.C_NoLayer) = some false
  up_BadCard_CardError : PySem.W.exmOne K (.ref A.C_BadCard) (.ref A.C_CardError) = some true
  x_BadPlace : ExC K mg "BadPlace" A.C_BadPlace A.f_BadPlace___init__
  q_BadPlace : ExcC K A.C_BadPlace
  is_BadPlace_CardError : PySem.W.kitOne K (.ref A.C_BadPlace) (.ref A.C_CardError) = some true
  g_BadPlace : mg "BadPlace" = some (.ref A.C_BadPlace)
  n_BadPlace_column : PySem.W.findIn K (.ref A.C_BadPlace) "column" = some none
  n_BadPlace_step : PySem.W.findIn K (.ref A.C_BadPlace) "step" = some none
  ex_BadPlace_NoColumn : PySem.W.exmOne K (.ref A.C_BadPlace) (.ref A.C_NoColumn) = some false
  ex_BadPlace_NoLayer : PySem.W.exmOne K (.ref A.C_BadPlace) (.ref A.C_NoLayer) = some false
  up_BadPlace_CardError : PySem.W.exmOne K (.ref A.C_BadPlace) (.ref A.C_CardError) = some true
  x_NoLayer : ExC K mg "NoLayer" A.C_NoLayer A.f_NoLayer___init__
  q_NoLayer : ExcC K A.C_NoLayer
  is_NoLayer_CardError : PySem.W.kitOne K (.ref A.C_NoLayer) (.ref A.C_CardError) = some true
  g_NoLayer : mg "NoLayer" = some (.ref A.C_NoLayer)
  n_NoLayer_layer : PySem.W.findIn K (.ref A.C_NoLayer) "layer" = some none
  ex_NoLayer_NoColumn : PySem.W.exmOne K (.ref A.C_NoLayer) (.ref A.C_NoColumn) = some false
  ex_NoLayer_NoLayer : PySem.W.exmOne K (.ref A.C_NoLayer) (.ref A.C_NoLayer) = some true
  up_NoLayer_CardError : PySem.W.exmOne K (.ref A.C_NoLayer) (.ref A.C_CardError) = some true
  g_Column : mg "Column" = some (.ref A.C_Column)
  cl_Column : Cls K A.C_Column
  i1_Column : PySem.W.findIn K (.ref A.C_Column) "__class__" = some (some (.builtin "object.__class__"))
  i4_Column : PySem.W.mroIn K A.C_Column (.type "object") = some true
  ii_Column : PySem.W.kitOne K (.ref A.C_Column) (.ref A.C_Column) = some true
  it_str_Column : PySem.W.kitOne K (.type "str") (.ref A.C_Column) = some false
  it_int_Column : PySem.W.kitOne K (.type "int") (.ref A.C_Column) = some false
  it_bool_Column : PySem.W.kitOne K (.type "bool") (.ref A.C_Column) = some false
  it_NoneType_Column : PySem.W.kitOne K (.type "NoneType") (.ref A.C_Column) = some false
  it_list_Column : PySem.W.kitOne K (.type "list") (.ref A.C_Column) = some false
  it_tuple_Column : PySem.W.kitOne K (.type "tuple") (.ref A.C_Column) = some false
  it_dict_Column : PySem.W.kitOne K (.type "dict") (.ref A.C_Column) = some false
  ti_Column_str : PySem.W.kitOne K (.ref A.C_Column) (.type "str") = some false
  ti_Column_int : PySem.W.kitOne K (.ref A.C_Column) (.type "int") = some false
  ti_Column_bool : PySem.W.kitOne K (.ref A.C_Column) (.type "bool") = some false
  ti_Column_list : PySem.W.kitOne K (.ref A.C_Column) (.type "list") = some false
  ti_Column_tuple : PySem.W.kitOne K (.ref A.C_Column) (.type "tuple") = some false
  kk_Column_Card : PySem.W.kitOne K (.ref A.C_Column) (.ref A.C_Card) = some false
  sb_Column_Card : PySem.W.subIn K (.ref A.C_Column) (.ref A.C_Card) = some false
  subt_Column : PySem.W.subIn K (.type "tuple") (.ref A.C_Column) = some false
  subl_Column : PySem.W.subIn K (.type "list") (.ref A.C_Column) = some false
  subi_Column : PySem.W.subIn K (.type "int") (.ref A.C_Column) = some false
  sub_Column : PySem.W.subIn K (.type "str") (.ref A.C_Column) = some false
  ne_Column : NeC K A.C_Column
  mk_Column : Mk K A.C_Column A.f_Column___init__
  n_Column_word : NoAttr K A.C_Column "word"
  n_Column_size : NoAttr K A.C_Column "size"
  o_Column_many : OwnM K A.C_Column "many" A.f_Column_many
  m_Column_many : Meth K A.C_Column "many" A.f_Column_many
  o_Column_place : OwnM K A.C_Column "place" A.f_Column_place
  m_Column_place : Meth K A.C_Column "place" A.f_Column_place
  o_Column_height : OwnM K A.C_Column "height" A.f_Column_height
  m_Column_height : Meth K A.C_Column "height" A.f_Column_height
  p_Column_heights : PropOf K A.C_Column "heights" A.p_Column_heights A.f_Column_heights
  o_Column___eq__ : OwnM K A.C_Column "__eq__" A.f_Column___eq__
  m_Column___eq__ : Meth K A.C_Column "__eq__" A.f_Column___eq__
  o_Column___str__ : OwnM K A.C_Column "__str__" A.f_Column___str__
  m_Column___str__ : Meth K A.C_Column "__str__" A.f_Column___str__
  o_Column___len__ : OwnM K A.C_Column "__len__" A.f_Column___len__
  m_Column___len__ : Meth K A.C_Column "__len__" A.f_Column___len__
  o_Column___iter__ : OwnM K A.C_Column "__iter__" A.f_Column___iter__
  m_Column___iter__ : Meth K A.C_Column "__iter__" A.f_Column___iter__
  g_Card : mg "Card" = some (.ref A.C_Card)
  cl_Card : Cls K A.C_Card
  i1_Card : PySem.W.findIn K (.ref A.C_Card) "__class__" = some (some (.builtin "object.__class__"))
  i4_Card : PySem.W.mroIn K A.C_Card (.type "object") = some true
  ii_Card : PySem.W.kitOne K (.ref A.C_Card) (.ref A.C_Card) = some true
  it_str_Card : PySem.W.kitOne K (.type "str") (.ref A.C_Card) = some false
  it_int_Card : PySem.W.kitOne K (.type "int") (.ref A.C_Card) = some false
  it_bool_Card : PySem.W.kitOne K (.type "bool") (.ref A.C_Card) = some false
  it_NoneType_Card : PySem.W.kitOne K (.type "NoneType") (.ref A.C_Card) = some false
  it_list_Card : PySem.W.kitOne K (.type "list") (.ref A.C_Card) = some false
  it_tuple_Card : PySem.W.kitOne K (.type "tuple") (.ref A.C_Card) = some false
  it_dict_Card : PySem.W.kitOne K (.type "dict") (.ref A.C_Card) = some false
  ti_Card_str : PySem.W.kitOne K (.ref A.C_Card) (.type "str") = some false
  ti_Card_int : PySem.W.kitOne K (.ref A.C_Card) (.type "int") = some false
  ti_Card_bool : PySem.W.kitOne K (.ref A.C_Card) (.type "bool") = some false
  ti_Card_list : PySem.W.kitOne K (.ref A.C_Card) (.type "list") = some false
  ti_Card_tuple : PySem.W.kitOne K (.ref A.C_Card) (.type "tuple") = some false
  kk_Card_Column : PySem.W.kitOne K (.ref A.C_Card) (.ref A.C_Column) = some false
  sb_Card_Column : PySem.W.subIn K (.ref A.C_Card) (.ref A.C_Column) = some false
  subt_Card : PySem.W.subIn K (.type "tuple") (.ref A.C_Card) = some false
  subl_Card : PySem.W.subIn K (.type "list") (.ref A.C_Card) = some false
  subi_Card : PySem.W.subIn K (.type "int") (.ref A.C_Card) = some false
  sub_Card : PySem.W.subIn K (.type "str") (.ref A.C_Card) = some false
  ne_Card : NeC K A.C_Card
  mk_Card : Mk K A.C_Card A.f_Card___init__
  n_Card_columns : NoAttr K A.C_Card "columns"
  n_Card_size : NoAttr K A.C_Card "size"
  n_Card_width : NoAttr K A.C_Card "width"
  n_Card_words : NoAttr K A.C_Card "words"
  n_Card_marks : NoAttr K A.C_Card "marks"
  o_Card_common : OwnM K A.C_Card "common" A.f_Card_common
  m_Card_common : Meth K A.C_Card "common" A.f_Card_common
  o_Card___eq__ : OwnM K A.C_Card "__eq__" A.f_Card___eq__
  m_Card___eq__ : Meth K A.C_Card "__eq__" A.f_Card___eq__
  o_Card___len__ : OwnM K A.C_Card "__len__" A.f_Card___len__
  m_Card___len__ : Meth K A.C_Card "__len__" A.f_Card___len__
  o_Card___iter__ : OwnM K A.C_Card "__iter__" A.f_Card___iter__
  m_Card___iter__ : Meth K A.C_Card "__iter__" A.f_Card___iter__
  c_MOST_SIZE : ∃ t, mg "MOST_SIZE" = some (.int 6 t)
  c_MOST_WIDTH : ∃ t, mg "MOST_WIDTH" = some (.int 12 t)
  i2 : PySem.W.specialIn K (.builtin "object.__class__") "__get__" = some (some (.builtin "getset_descriptor.__get__"))
  i3 : PySem.W.takesIn K (.builtin "object.__class__") = some true
  b_ValueError : mg "ValueError" = none
  b_abs : mg "abs" = none
  b_all : mg "all" = none
  b_bool : mg "bool" = none
  b_classmethod : mg "classmethod" = none
  b_enumerate : mg "enumerate" = none
  b_int : mg "int" = none
  b_isinstance : mg "isinstance" = none
  b_iter : mg "iter" = none
  b_len : mg "len" = none
  b_list : mg "list" = none
  b_max : mg "max" = none
  b_property : mg "property" = none
  b_range : mg "range" = none
  b_sorted : mg "sorted" = none
  b_staticmethod : mg "staticmethod" = none
  b_str : mg "str" = none
  b_tuple : mg "tuple" = none
  b_zip : mg "zip" = none
  im_pairwise : mg "pairwise" = some (.type "itertools.pairwise")
namespace Vv
def mixI (n t : Int) : Int :=
  let a := (n * 48271 + t * 16807 + 11) % 2147483647
  let b := (a * a + a / 127 * 40692 + t * 69621) % 2147483399
  (b * b / 1009 + a) % 2147483563 / 16
def hsOk (st : HS) : Bool := !st.bag && (decide (st.pos ≤ 63) && (decide (st.cells.length ≤ 63) && (st.cells.all (fun c => decide (0 ≤ c)) && (decide (0 ≤ st.pend) && (decide (0 ≤ st.tot) && decide (st.tot < 2147483629))))))
theorem hsOk_iff {st : HS} : hsOk st = true ↔ st.bag = false ∧ st.pos ≤ 63 ∧ st.cells.length ≤ 63 ∧ (∀ c ∈ st.cells, 0 ≤ c) ∧ 0 ≤ st.pend ∧ 0 ≤ st.tot ∧ st.tot < 2147483629 := by
  unfold hsOk
  simp only [Bool.and_eq_true, decide_eq_true_eq, List.all_eq_true, Bool.not_eq_true']
def tailF (m : Int) (st : HS) : Int × HS :=
  if 0 < st.pend then (st.pend % m, { st with pend := st.pend / m })
  else (mixI ((st.tot + 1) % 2147483629) st.pos % m, { st with tot := (st.tot + 1) % 2147483629 })
theorem tail_pos {m : Int} {st : HS} (h : 0 < st.pend) : tailF m st = (st.pend % m, { st with pend := st.pend / m }) := if_pos h
theorem tail_neg {m : Int} {st : HS} (h : ¬ 0 < st.pend) : tailF m st = (mixI ((st.tot + 1) % 2147483629) st.pos % m, { st with tot := (st.tot + 1) % 2147483629 }) := if_neg h
def drawF (m : Int) (st : HS) : Int × HS :=
  if st.pend = 0 then match st.cells[st.pos]? with
    | some c => if c < 10 ^ 18 then (mixI (c % 2147483647) ((st.pos : Int) + 1) % m, { st with pos := st.pos + 1 }) else tailF m { st with pos := st.pos + 1, pend := c }
    | none => tailF m st
  else tailF m st
def F_l_draw : List D → S → R D
  | [.int m], some st => if hsOk st && (decide (0 < m) && decide (m < 1152921504606846976)) then .ok (.int (drawF m st).1) (some (drawF m st).2) else .bad
  | _, _ => .bad
theorem tail_ok {m : Int} {st : HS} (h : hsOk st = true) (hm : 0 < m) : (0 ≤ (tailF m st).1 ∧ (tailF m st).1 < m) ∧ hsOk (tailF m st).2 = true := by
  rw [hsOk_iff] at h
  obtain ⟨hb, h1, h2, h3, h4, h5, h6⟩ := h
  unfold tailF
  split
  · refine ⟨⟨Int.emod_nonneg _ (by omega), Int.emod_lt_of_pos _ hm⟩, hsOk_iff.mpr ⟨hb, h1, h2, h3, Int.ediv_nonneg (by omega) (by omega), h5, h6⟩⟩
  · refine ⟨⟨Int.emod_nonneg _ (by omega), Int.emod_lt_of_pos _ hm⟩, hsOk_iff.mpr ⟨hb, h1, h2, h3, h4, Int.emod_nonneg _ (by omega), Int.emod_lt_of_pos _ (by omega)⟩⟩
theorem draw_ok {m : Int} {st : HS} (h : hsOk st = true) (hm : 0 < m) (hl : m < 1152921504606846976) : ∃ d st', F_l_draw [.int m] (some st) = .ok (.int d) (some st') ∧ 0 ≤ d ∧ d < m ∧ hsOk st' = true := by
  refine ⟨(drawF m st).1, (drawF m st).2, if_pos (by rw [h, decide_eq_true hm, decide_eq_true hl]; rfl), ?_⟩
  unfold drawF
  have h' := h
  rw [hsOk_iff] at h'
  obtain ⟨hb, h1, h2, h3, h4, h5, h6⟩ := h'
  split
  · split
    · rename_i c e
      have hp := (List.getElem?_eq_some_iff.mp e).1
      split
      · exact ⟨Int.emod_nonneg _ (by omega), Int.emod_lt_of_pos _ hm, hsOk_iff.mpr ⟨hb, by dsimp only; omega, h2, h3, h4, h5, h6⟩⟩
      · have hc := h3 c (List.mem_of_getElem? e)
        have z := tail_ok (m := m) (st := { st with pos := st.pos + 1, pend := c }) (hsOk_iff.mpr ⟨hb, by dsimp only; omega, h2, h3, hc, h5, h6⟩) hm
        exact ⟨z.1.1, z.1.2, z.2⟩
    · have z := tail_ok h hm
      exact ⟨z.1.1, z.1.2, z.2⟩
  · have z := tail_ok h hm
    exact ⟨z.1.1, z.1.2, z.2⟩
end Vv
section
open Vv
variable {P : Program} {w : World} {K : PySem.W.Frag} {mg : Str → Option Value} {base : Heap} {AD : Ads}
def spMixX : Sp := fun vs H Q _ => ∃ n t : Int, vs = [.int n, .int t] ∧ (0 ≤ n ∧ n < 2147483648) ∧ (0 ≤ t ∧ t < 1000) ∧ Q (.int (mixI n t)) H
theorem okx_l_mix (T : Top K mg AD) : FnOk P w K mg base CX0 1 AD.f_l_mix AD.d_l_mix P_l_mix spMixX := by
  refine T.D_l_mix.F.ok sc_l_mix (fun vs H Q E h => ?_) (fun cdv A outer s H vs Q E hr h => ?_)
  · obtain ⟨n, t, rfl, _⟩ := h
    rfl
  · obtain ⟨n, t, rfl, hn, ht, q⟩ := h
    refine ⟨_, (pss_cons (ps_set (i := 2) sc_l_mix.nd rfl (Or.inl rfl) (pe_op op_mod (pe_callTy call_int1 (by rfl) T.b_int (by decide +kernel) (pa_cons (pe_op op_add (pe_op op_add (pe_op op_mul (pv 0) pe_int) (pe_op op_mul (pv 1) pe_int)) pe_int) pa_nil)) pe_int))
    (pss_cons (ps_set (i := 3) sc_l_mix.nd rfl (Or.inl rfl) (pe_op op_mod (pe_callTy call_int1 (by rfl) T.b_int (by decide +kernel) (pa_cons (pe_op op_add (pe_op op_add (pe_op op_mul (pv 2) (pv 2)) (pe_op op_mul (pe_op op_fdiv (pv 2) pe_int) pe_int)) (pe_op op_mul (pv 1) pe_int)) pa_nil)) pe_int))
    (pss_one (ps_ret (pe_op op_fdiv (pe_op op_mod (pe_callTy call_int1 (by rfl) T.b_int (by decide +kernel) (pa_cons (pe_op op_add (pe_op op_fdiv (pe_op op_mul (pv 3) (pv 3)) pe_int) (pv 2)) pa_nil)) pe_int) pe_int))))), ?_⟩
    walk_at "go"
    exact q
/-- as StepH, at the heap's own level -/
def spDrawX : Sp := fun vs H Q _ => ∃ (a l : Addr) (m : Int) (st : HS), vs = [.ref a, .int m] ∧ HandAt H a l st ∧ hsOk st = true ∧ (0 < m ∧ m < 1152921504606846976) ∧ ∀ H', But a H H' → (∀ b, H b = none → H' b = none) → HandAt H' a l (drawF m st).2 → Q (.int (drawF m st).1) H'
theorem handBut {H H' : Hp} {a l : Addr} {st st' : HS} (hb : st.bag = false) (h : HandAt H a l st) (b : But a H H') (ea : H' a = some (.lst [.ref l, .int st'.pos, .int st'.pend, .int st'.tot])) (ec : st'.cells = st.cells) (eb : st'.bag = st.bag) : HandAt H' a l st' := ⟨by unfold HS.top; rw [eb, hb]; exact ea, by rw [ec]; exact b l _ (Ne.symm (h.ne.1 hb)) h.el, fun _ => h.ne.1 hb, fun z => by rw [eb, hb] at z; cases z⟩
theorem handTop {H : Hp} {a l : Addr} {st : HS} (hb : st.bag = false) (h : HandAt H a l st) : H a = some (.lst [.ref l, .int st.pos, .int st.pend, .int st.tot]) := by
  have e := h.ea
  unfold HS.top at e
  rw [hb] at e
  exact e
theorem upd_gone {H H1 : Hp} {a : Addr} {o u : HO} (ea : H a = some u) (n : ∀ b, H b = none → H1 b = none) : ∀ b, H b = none → upd H1 a o b = none := fun b e => by
  rw [upd_ne (fun z => by rw [z, ea] at e; cases e)]
  exact n b e
theorem okx_l_draw (T : Top K mg AD) : FnOk P w K mg base (L2.CX P w) 2 AD.f_l_draw AD.d_l_draw P_l_draw spDrawX := by
  refine T.D_l_draw.F.okX sc_l_draw (fun vs H Q E h => ?_) (fun cdv A outer s H vs Q E hr h => ?_)
  · obtain ⟨n, l, t, st, rfl, _⟩ := h
    rfl
  · obtain ⟨a, l, m, st, rfl, hA, hok, ⟨hm, hml⟩, q⟩ := h
    refine ⟨_, (pss_cons (ps_if (PW.pt (pw_and (pt_cmpR op_eq (pe_ix (ix_listK (K := K) rfl) (pv 0) pe_int (fun _ _ => rfl)) pe_int (nomark _)) (pw_and1 (pt_cmpR op_lt (pe_ix (ix_listK (K := K) rfl) (pv 0) pe_int (fun _ _ => rfl)) (pe_callB (call_lenQ (K := K) rfl) (by rfl) T.b_len (by decide +kernel) (pa_cons (pe_ix (ix_listK (K := K) rfl) (pv 0) pe_int (fun _ _ => rfl)) pa_nil)) (nomark _)))))
    (pss_cons (ps_set (i := 2) sc_l_draw.nd rfl (Or.inl rfl) (pe_ix (ix_listK (K := K) rfl) (pe_ix (ix_listK (K := K) rfl) (pv 0) pe_int (fun _ _ => rfl)) (pe_ix (ix_listK (K := K) rfl) (pv 0) pe_int (fun _ _ => rfl)) (fun _ _ => rfl)))
    (pss_cons (ps_asg (pe_op op_add (pe_ix (ix_listK (K := K) rfl) (pv 0) pe_int (fun _ _ => rfl)) pe_int) (pg_sub (pv 0) pe_int set_list))
    (pss_cons (ps_if (pt_cmpR op_lt (pv 2) (pe_op op_pow pe_int pe_int) (nomark _))
    (pss_one (ps_ret (pe_op op_mod (pe_callTy call_int1 (by rfl) T.b_int (by decide +kernel) (pa_cons (callD T.D_l_mix (okx_l_mix T) hr (pa_cons (pe_op op_mod (pe_callTy call_int1 (by rfl) T.b_int (by decide +kernel) (pa_cons (pv 2) pa_nil)) pe_int) (pa_cons (pe_ix (ix_listK (K := K) rfl) (pv 0) pe_int (fun _ _ => rfl)) pa_nil))) pa_nil)) (pv 1))))
    pss_nil)
    (pss_one (ps_asg (pv 2) (pg_sub (pv 0) pe_int set_list))))))
    pss_nil)
    (pss_cons (ps_if (pt_cmpR op_gt (pe_ix (ix_listK (K := K) rfl) (pv 0) pe_int (fun _ _ => rfl)) pe_int (nomark _))
    (pss_cons (ps_set (i := 3) sc_l_draw.nd rfl (Or.inl rfl) (pe_ix (ix_listK (K := K) rfl) (pv 0) pe_int (fun _ _ => rfl)))
    (pss_cons (ps_asg (pe_op op_fdivW (pv 3) (pv 1)) (pg_sub (pv 0) pe_int set_list))
    (pss_one (ps_ret (pe_op op_mod (pe_callTy call_int1 (by rfl) T.b_int (by decide +kernel) (pa_cons (pv 3) pa_nil)) (pv 1))))))
    pss_nil)
    (pss_cons (ps_asg (pe_op op_mod (pe_callTy call_int1 (by rfl) T.b_int (by decide +kernel) (pa_cons (pe_op op_add (pe_ix (ix_listK (K := K) rfl) (pv 0) pe_int (fun _ _ => rfl)) pe_int) pa_nil)) pe_int) (pg_sub (pv 0) pe_int set_list))
    (pss_one (ps_ret (pe_op op_mod (pe_callTy call_int1 (by rfl) T.b_int (by decide +kernel) (pa_cons (callD T.D_l_mix (okx_l_mix T) hr (pa_cons (pe_ix (ix_listK (K := K) rfl) (pv 0) pe_int (fun _ _ => rfl)) (pa_cons (pe_ix (ix_listK (K := K) rfl) (pv 0) pe_int (fun _ _ => rfl)) pa_nil))) pa_nil)) (pv 1))))))), ?_⟩
    have ea := handTop (hsOk_iff.mp hok).1 hA
    have el := hA.el
    have hal := hA.ne.1 (hsOk_iff.mp hok).1
    obtain ⟨hbg, hp, hl, hc, hpe, ht0, ht1⟩ := hsOk_iff.mp hok
    walk_at "go"
    refine ite2 (fun e => ?_) (fun e => ?_)
    · have e0 : st.pend = 0 := V.int.inj (of_decide_eq_true e)
      walk_at "go"
      refine ite2 (fun e2 => ?_) (fun e2 => ?_)
      · have e3 := of_decide_eq_true e2
        rw [List.length_map] at e3
        have e4 : st.pos < st.cells.length := by omega
        have hce : 0 ≤ st.cells[st.pos] := hc _ (List.getElem_mem e4)
        have e6 : st.cells[st.pos]? = some st.cells[st.pos] := List.getElem?_eq_getElem e4
        walk_at "go"
        refine ⟨_, _, _, _, rfl, rfl, SqL.of el, atI_nat (j := st.pos) (v := .int st.cells[st.pos]) (by simp [e4]), ?_⟩
        walk_at "go"
        refine ite2 (fun e5 => ?_) (fun e5 => ?_)
        · walk_at "go"
          refine ⟨_, _, rfl, ⟨by omega, by omega⟩, ⟨by omega, by omega⟩, ?_⟩
          walk_at "go"
          have e7 : drawF m st = (mixI (st.cells[st.pos] % 2147483647) ((st.pos : Int) + 1) % m, { st with pos := st.pos + 1 }) := by
            unfold drawF
            rw [if_pos e0, e6]
            exact if_pos (of_decide_eq_true e5)
          rw [e7] at q
          exact q _ (by repeat (first | exact But.refl a _ | refine But.upd ?_)) (by repeat (first | exact fun _ z => z | refine upd_gone ea ?_)) (handBut hbg hA (by repeat (first | exact But.refl a _ | refine But.upd ?_)) upd_same rfl rfl)
        · walk_at "go"
          have e7 : drawF m st = tailF m { st with pos := st.pos + 1, pend := st.cells[st.pos] } := by
            unfold drawF
            rw [if_pos e0, e6]
            exact if_neg (fun z => e5 (decide_eq_true z))
          rw [e7] at q
          walk_at "go"
          refine ite2 (fun e => ?_) (fun e => ?_)
          · have e0 := of_decide_eq_true e
            walk_at "go"
            try refine And.intro (cdivw hm hml) ?_
            walk_at "go"
            rw [tail_pos e0] at q
            exact q _ (by repeat (first | exact But.refl a _ | refine But.upd ?_)) (by repeat (first | exact fun _ z => z | refine upd_gone ea ?_)) (handBut hbg hA (by repeat (first | exact But.refl a _ | refine But.upd ?_)) upd_same rfl rfl)
          · have e0 : ¬ 0 < ({ st with pos := st.pos + 1, pend := st.cells[st.pos] } : HS).pend := fun z => e (decide_eq_true z)
            walk_at "go"
            refine ⟨_, _, rfl, ⟨by omega, by omega⟩, ⟨by omega, by omega⟩, ?_⟩
            walk_at "go"
            rw [tail_neg e0] at q
            exact q _ (by repeat (first | exact But.refl a _ | refine But.upd ?_)) (by repeat (first | exact fun _ z => z | refine upd_gone ea ?_)) (handBut hbg hA (by repeat (first | exact But.refl a _ | refine But.upd ?_)) upd_same rfl rfl)
      · have e3 : ¬ st.pos < st.cells.length := fun z => e2 (decide_eq_true (by rw [List.length_map]; omega))
        have e7 : drawF m st = tailF m st := by
          unfold drawF
          rw [if_pos e0, List.getElem?_eq_none (by omega)]
        rw [e7] at q
        walk_at "go"
        refine ite2 (fun e => ?_) (fun e => ?_)
        · have e0 := of_decide_eq_true e
          walk_at "go"
          try refine And.intro (cdivw hm hml) ?_
          walk_at "go"
          rw [tail_pos e0] at q
          exact q _ (by repeat (first | exact But.refl a _ | refine But.upd ?_)) (by repeat (first | exact fun _ z => z | refine upd_gone ea ?_)) (handBut hbg hA (by repeat (first | exact But.refl a _ | refine But.upd ?_)) upd_same rfl rfl)
        · have e0 : ¬ 0 < st.pend := fun z => e (decide_eq_true z)
          walk_at "go"
          refine ⟨_, _, rfl, ⟨by omega, by omega⟩, ⟨by omega, by omega⟩, ?_⟩
          walk_at "go"
          rw [tail_neg e0] at q
          exact q _ (by repeat (first | exact But.refl a _ | refine But.upd ?_)) (by repeat (first | exact fun _ z => z | refine upd_gone ea ?_)) (handBut hbg hA (by repeat (first | exact But.refl a _ | refine But.upd ?_)) upd_same rfl rfl)
    · have e0 : ¬ st.pend = 0 := fun z => e (decide_eq_true (congrArg V.int z))
      have e7 : drawF m st = tailF m st := by
        unfold drawF
        rw [if_neg e0]
      rw [e7] at q
      walk_at "go"
      refine ite2 (fun e => ?_) (fun e => ?_)
      · have e0 := of_decide_eq_true e
        walk_at "go"
        try refine And.intro (cdivw hm hml) ?_
        walk_at "go"
        rw [tail_pos e0] at q
        exact q _ (by repeat (first | exact But.refl a _ | refine But.upd ?_)) (by repeat (first | exact fun _ z => z | refine upd_gone ea ?_)) (handBut hbg hA (by repeat (first | exact But.refl a _ | refine But.upd ?_)) upd_same rfl rfl)
      · have e0 : ¬ 0 < st.pend := fun z => e (decide_eq_true z)
        walk_at "go"
        refine ⟨_, _, rfl, ⟨by omega, by omega⟩, ⟨by omega, by omega⟩, ?_⟩
        walk_at "go"
        rw [tail_neg e0] at q
        exact q _ (by repeat (first | exact But.refl a _ | refine But.upd ?_)) (by repeat (first | exact fun _ z => z | refine upd_gone ea ?_)) (handBut hbg hA (by repeat (first | exact But.refl a _ | refine But.upd ?_)) upd_same rfl rfl)
end
namespace Vv
def BT (K : PySem.W.Frag) (AD : Ads) : Tb where
  K := K
  cls := fun c => match c with
    | 2 => AD.C_CardError
    | 3 => AD.C_NoColumn
    | 4 => AD.C_BadColumn
    | 5 => AD.C_BadBoundary
    | 7 => AD.C_BadCard
    | 9 => AD.C_BadPlace
    | 66 => AD.C_NoLayer
    | 0 => AD.C_Column
    | 1 => AD.C_Card
    | _ => 0
  fld := fun c => match c with
    | 2 => []
    | 3 => ["column"]
    | 4 => ["what"]
    | 5 => ["boundary"]
    | 7 => ["what", "index"]
    | 9 => ["step", "column"]
    | 66 => ["layer"]
    | 0 => ["word", "size"]
    | 1 => ["columns", "size", "width", "words", "marks"]
    | _ => []
def CS : List Nat := [0, 1]
theorem kit {K : PySem.W.Frag} {mg : Str → Option Value} {AD : Ads} (T : Top K mg AD) : KitOk (BT K AD) CS := by
  have mem : ∀ c ∈ CS, c = 0 ∨ c = 1 := fun c h => by simpa [CS] using h
  have kn : ∀ a ∈ kinds, a = "NoneType" ∨ a = "bool" ∨ a = "int" ∨ a = "str" ∨ a = "tuple" ∨ a = "list" ∨ a = "dict" := fun a h => by simpa [kinds] using h
  have as_ : ∀ a ∈ asks, a = "int" ∨ a = "bool" ∨ a = "str" ∨ a = "list" ∨ a = "tuple" := fun a h => by simpa [asks] using h
  refine ⟨fun c hc H a dx fs e => ?_, fun c hc b hb => ?_, fun c hc a ha => ?_, fun c hc d hd => ?_⟩
  · rcases mem c hc with rfl | rfl
    · exact .base (.ins e T.cl_Column T.i1_Column T.i2 T.i3 T.i4_Column)
    · exact .base (.ins e T.cl_Card T.i1_Card T.i2 T.i3 T.i4_Card)
  · rcases mem c hc with rfl | rfl
    · rcases as_ b hb with rfl | rfl | rfl | rfl | rfl
      · exact T.ti_Column_int
      · exact T.ti_Column_bool
      · exact T.ti_Column_str
      · exact T.ti_Column_list
      · exact T.ti_Column_tuple
    · rcases as_ b hb with rfl | rfl | rfl | rfl | rfl
      · exact T.ti_Card_int
      · exact T.ti_Card_bool
      · exact T.ti_Card_str
      · exact T.ti_Card_list
      · exact T.ti_Card_tuple
  · rcases mem c hc with rfl | rfl
    · rcases kn a ha with rfl | rfl | rfl | rfl | rfl | rfl | rfl
      · exact T.it_NoneType_Column
      · exact T.it_bool_Column
      · exact T.it_int_Column
      · exact T.it_str_Column
      · exact T.it_tuple_Column
      · exact T.it_list_Column
      · exact T.it_dict_Column
    · rcases kn a ha with rfl | rfl | rfl | rfl | rfl | rfl | rfl
      · exact T.it_NoneType_Card
      · exact T.it_bool_Card
      · exact T.it_int_Card
      · exact T.it_str_Card
      · exact T.it_tuple_Card
      · exact T.it_list_Card
      · exact T.it_dict_Card
  · rcases mem c hc with rfl | rfl
    · rcases mem d hd with rfl | rfl
      · exact T.ii_Column
      · exact T.kk_Column_Card
    · rcases mem d hd with rfl | rfl
      · exact T.kk_Card_Column
      · exact T.ii_Card
end Vv
section
open Vv
variable {P : Program} {w : World} {K : PySem.W.Frag} {mg : Str → Option Value} {base : Heap} {AD : Ads}
theorem v_l_draw (T : Top K mg AD) : FnOk P w K mg base (L2.CX P w) 2 AD.f_l_draw AD.d_l_draw P_l_draw (spH (BT K AD) 1 F_l_draw) := by
  refine (okx_l_draw T).imp fun vs H Q E h => ?_
  obtain ⟨Z, ds, a, l, st, ws, rfl, z, hl, r, hA, za, zl, h⟩ := h
  match ds, hl, r, h with
  | [d], _, .cons (v := v) r .nil, h =>
    cases d with
    | int m =>
      cases r
      unfold F_l_draw at h
      cases hk : (hsOk st && (decide (0 < m) && decide (m < 1152921504606846976))) with
      | false => simp only [hk] at h; exact h.elim
      | true =>
        simp only [hk, if_true] at h
        simp only [Bool.and_eq_true, decide_eq_true_eq] at hk
        refine ⟨a, l, m, st, rfl, hA, hk.1, hk.2, fun H' b n hA' => ?_⟩
        refine h _ Z H' _ rfl ⟨fun b' o hb e => b b' o hb e, Same.refl Z, fun b' o e => ?_, fun _ _ e => .inl e⟩ hA' (.int _)
        exact b b' o (fun q => by rw [q, za] at e; cases e) (z b' o e)
    | _ => exact h.elim
def spHandX (K : PySem.W.Frag) : Sp := fun vs H Q _ => ∃ (a : Addr) (ns : List Int), vs = [.ref a] ∧ SqL K H a (ns.map V.int) ∧ ns.length ≤ 63 ∧ ∀ p l H' st, Same H H' → H p = none → H l = none → HandAt H' p l st → hsOk st = true → Q (.ref p) H'
theorem okx_l_hand (T : Top K mg AD) : FnOk P w K mg base CX0 1 AD.f_l_hand AD.d_l_hand P_l_hand (spHandX K) := by
  refine T.D_l_hand.F.ok sc_l_hand (fun vs H Q E h => ?_) (fun cdv A outer s H vs Q E hr h => ?_)
  · obtain ⟨n, t, rfl, _⟩ := h
    rfl
  · obtain ⟨a, ns, rfl, hS, hlen, q⟩ := h
    refine ⟨_, (pss_cons (ps_set (i := 1) sc_l_hand.nd rfl (Or.inl rfl) pe_int)
    (pss_cons (ps_for PassesOwn.never rfl (pi_enum (by rfl) T.b_enumerate (pa_cons (pv 0) pa_nil)) (pg_tup (by rfl) (pgs_cons (pg_name (i := 2) sc_l_hand.nd rfl (Or.inl rfl)) (pgs_cons (pg_name (i := 3) sc_l_hand.nd rfl (Or.inl rfl)) pgs_nil)))
    (pss_one (ps_set (i := 1) sc_l_hand.nd rfl (Or.inl rfl) (pe_op op_mod (pe_callTy call_int1 (by rfl) T.b_int (by decide +kernel) (pa_cons (pe_op op_add (pe_op op_mul (pv 1) pe_int) (pe_op op_mul (pe_callTy call_int1 (by rfl) T.b_int (by decide +kernel) (pa_cons (pv 3) pa_nil)) (pe_op op_add (pv 2) pe_int))) pa_nil)) pe_int))))
    (pss_one (ps_ret (pe_lst (pa_cons (pe_lc (own := [("_law_cell", 3)]) (g := (gName 3)) (tt := tYes) rfl sc_l_hand.nd (pi_list (pv 0)) (blkOk_by (N := N_l_hand) (sc := defScope s_l_hand) (by decide +kernel)) (fun _ _ _ _ _ => (pg_name (i := 3) sc_l_hand.nd rfl (by first | exact Or.inl rfl | exact Or.inr rfl))) (fun _ _ _ _ _ => pts_nil) (fun _ _ _ _ _ => (pe_callB call_abs (by rfl) T.b_abs (by decide +kernel) (pa_cons (pe_callTy call_int1 (by rfl) T.b_int (by decide +kernel) (pa_cons (pv 3) pa_nil)) pa_nil)))) (pa_cons pe_int (pa_cons pe_int (pa_cons (pv 1) pa_nil))))))))), ?_⟩
    walk_at "go"
    refine ⟨_, _, rfl, hS, ?_⟩
    refine for_it walk_enum (fun i σ H' => ∃ tot o2 o3, σ = [some (.ref a), some (.int tot), o2, o3] ∧ (0 ≤ tot ∧ tot < 2147483629) ∧ Same H H') ⟨0, none, none, rfl, by omega, Same.refl H⟩ (fun i σ H' hi ⟨_, _, _, _, _, s2⟩ => s2.seq hS) ?_ ?_
    · rintro i x σ H1 H2 hi ⟨tot, o2, o3, rfl, ht, s1⟩ ⟨T', x1, x2, rfl, hT, rfl, e1, e2⟩
      rw [List.length_map] at hi
      obtain rfl := Option.some.inj e1
      obtain rfl : V.int ns[i] = x2 := by simpa [hi] using e2
      refine ⟨T', [.int i, .int ns[i]], rfl, .inl (.inl upd_same), rfl, .int i, [.int ns[i]], rfl, .int ns[i], [], rfl, rfl, ?_⟩
      walk_at "go"
      exact ⟨_, _, _, rfl, ⟨by omega, by omega⟩, same_new s1 hT⟩
    · rintro σ H1 ⟨tot, o2, o3, rfl, ht, s1⟩
      walk_at "go"
      refine ⟨⟨_, s1.seq hS⟩, ?_⟩
      intro Dl hD
      refine lc_it (walk_list (xs := ns.map V.int)) (fun i H' => But Dl H1 H' ∧ H' Dl = some (.lst ((ns.take i).map fun z => V.int (if z < 0 then -z else z)))) ⟨But.upd (But.refl _ _), upd_same⟩ (fun i H' hi h => (s1.trans (same_but (Same.refl _) hD h.1)).seq hS) ?_ ?_
      · rintro i x H2 H3 hi ⟨b2, e2⟩ ⟨rfl, ex⟩
        rw [List.length_map] at hi
        obtain rfl : V.int ns[i] = x := by simpa [hi] using ex
        refine ⟨rfl, ?_⟩
        walk_at "go"
        refine ⟨_, e2, ?_, But.upd b2, ?_⟩
        · rw [List.length_map]
          exact small1000 (by have := List.length_take_le i ns; omega)
        · rw [upd_same, List.take_add_one, List.getElem?_eq_getElem hi, List.map_append]
          rfl
      · rintro H2 ⟨b2, e2⟩
        rw [List.length_map, List.take_length] at e2
        have s2 : Same H H2 := s1.trans (same_but (Same.refl _) hD b2)
        walk_at "go"
        refine ⟨(by show 4 ≤ sizeLine; decide), fun p hp => ?_⟩
        have hpd : Dl ≠ p := ne_of_none e2 hp
        refine q p Dl _ { cells := ns.map fun z => if z < 0 then -z else z, pos := 0, pend := 0, tot := tot } (same_new s2 hp) (same_free s2 hp) (same_free s1 hD) ⟨upd_same, ?_, fun _ => Ne.symm hpd, fun z => nomatch z⟩ (hsOk_iff.mpr ⟨rfl, by show 0 ≤ 63; decide, by rw [List.length_map]; exact hlen, ?_, Int.le_refl 0, ht⟩)
        · rw [upd_ne hpd, e2, List.map_map]
          rfl
        · intro c hc
          obtain ⟨z, _, rfl⟩ := List.mem_map.mp hc
          split <;> omega
def spLaw (K : PySem.W.Frag) : Sp := fun vs H Q _ => ∃ (a : Addr) (ns : List Int), vs = [.ref a] ∧ SqL K H a (ns.map V.int) ∧ ns.length ≤ 63 ∧ ∀ H', Q (.bl true) H'
end
section
variable {P : Program} {w : World} {K : PySem.W.Frag} {mg : Str → Option Value} {base : Heap} {AD : Ads}
theorem ok_ht (T : Top K mg AD) : FnOk P w K mg base CX0 1 AD.f_Column_heights AD.d_Column_heights P_Column_heights (spHt AD.C_Column) := by
  refine T.D_Column_heights.F.ok sc_Column_heights (fun vs H Q E h => ?_) (fun cdv A outer s H vs Q E hr h => ?_)
  · obtain ⟨a, dx, fs, l, rfl, _⟩ := h
    rfl
  · obtain ⟨a, dx, fs, l, rfl, ea, ef, hl, q⟩ := h
    have cl := T.cl_Column
    have nw := T.n_Column_word
    refine ⟨_, (pss_cons (ps_set (i := 1) sc_Column_heights.nd rfl (Or.inl rfl) (Pw.pe_conv (pe_lst (pa_cons pe_int pa_nil))))
      (pss_cons (ps_for PassesOwn.never rfl (pi_str (pe_fld (pv 0) rfl)) (pg_name (i := 2) sc_Column_heights.nd rfl (Or.inl rfl))
      (pss_one (ps_expr (Pw.pe_appT (pv 1) (Pw.pet_add (pe_ix Pw.ix_lstO (pv 1) (pe_un un_neg pe_int) (fun _ _ => rfl)) (Pw.pe1_ifExp (pt_cmpR op_eq (pv 2) (pe_s (x := Str.ofString "d") [100] (by decide +kernel)) (nomark _)) Pw.pe1_int (Pw.pe1_neg Pw.pe1_int)))))))
      (pss_one (ps_ret (pe_callTy Pw.call_tupO (by rfl) T.b_tuple (by decide +kernel) (pa_cons (pv 1) pa_nil)))))), ?_⟩
    refine ⟨szl (by show 1 ≤ 1000; decide), fun p np => ⟨p, 0, rfl, upd_same, ?_⟩⟩
    rw [upd_upd]
    have s1 := same_new (o := Pw.LtO p [0]) (Same.refl H) np
    have ea1 := s1 _ _ ea
    refine ⟨_, rfl, ?_⟩
    refine ⟨a, AD.C_Column, dx, fs, _, rfl, ea1, cl, nw, ef, _, rfl, ?_⟩
    refine for_it walk_S (fun i σ H' => ∃ o2 : Option V, σ = [some (.ref a), some (.ref p), o2] ∧ But p H H' ∧ H' p = some (Pw.LtO p (HIs l i)))
      ⟨none, rfl, But.upd (But.refl _ _), upd_same⟩ (fun _ _ _ _ _ => trivial) ?_ ?_
    · rintro i x σ H1 H2 hi ⟨o2, rfl, bt, e⟩ ⟨rfl, c, hc, rfl⟩
      have hi' : i < l.length := by
        have := (List.getElem?_eq_some_iff.mp hc).1
        simpa using this
      have hcl : l.getD i 0 = c := by
        rw [List.getD_eq_getElem?_getD]
        have : l[i]? = some c := by simpa using hc
        rw [this]
        rfl
      have many : (HIs l i).length ≤ 1000 := by rw [HIs_len]; omega
      have e' := e
      rw [HIs_last] at e'
      refine ⟨_, rfl, ?_⟩
      refine ⟨p, HIs l i, rfl, e, ?_⟩
      refine ⟨_, rfl, 1, rfl, p, (List.range i).map (HI l), HI l i, rfl, rfl, e', by rw [List.length_map, List.length_range]; omega, ?_⟩
      walk_at "go"
      refine ite2 (fun e1 => ?_) (fun e1 => ?_)
      · have ec : c = 100 := by simpa using sOf_inj.mp (V.str.inj (of_decide_eq_true e1))
        refine ⟨_, _, rfl, rfl, _, rfl, e, many, ?_⟩
        refine ⟨_, rfl, But.upd bt, ?_⟩
        rw [upd_same, HIs_succ, HI, hcl, if_pos ec]
      · have ec : ¬ c = 100 := fun z => e1 (by rw [z]; exact decide_eq_true rfl)
        refine ⟨1, rfl, _, _, rfl, rfl, _, rfl, e, many, ?_⟩
        refine ⟨_, rfl, But.upd bt, ?_⟩
        rw [upd_same, HIs_succ, HI, hcl, if_neg ec]
    · rintro σ H1 ⟨o2, rfl, bt, e⟩
      have s2 : Same H H1 := same_but (Same.refl _) np bt
      refine ⟨_, rfl, p, _, rfl, e, by rw [HIs_len]; simpa using (by omega : l.length + 1 ≤ 1000), fun t nt => ?_⟩
      exact q t _ (s2.free nt) (same_new s2 nt) upd_same
end
namespace Vv
section
variable {P : Program} {w : World} {K : PySem.W.Frag} {mg : Str → Option Value} {base : Heap} {AD : Ads}
theorem ok_NoColumn___init__ (T : Top K mg AD) : FnOk P w K mg base CX0 1 AD.f_NoColumn___init__ AD.d_NoColumn___init__ P_NoColumn___init__ (spE1 K "column") := by
  refine T.D_NoColumn___init__.F.ok sc_NoColumn___init__ (fun vs H Q E h => ?_) (fun cdv A outer s H vs Q E hr h => ?_)
  · obtain ⟨a, C, v, rfl, _⟩ := h
    rfl
  · obtain ⟨a, C, v, rfl, ho, hn, ha, q⟩ := h
    refine ⟨_, (pss_one (ps_ost (pv 0) (pv 1))), ?_⟩
    walk_at "go"
    exact ⟨a, C, rfl, ho, hn, .inl ⟨ha, fun dx n ne => q dx n ne⟩⟩
theorem ok_BadColumn___init__ (T : Top K mg AD) : FnOk P w K mg base CX0 1 AD.f_BadColumn___init__ AD.d_BadColumn___init__ P_BadColumn___init__ (spE1 K "what") := by
  refine T.D_BadColumn___init__.F.ok sc_BadColumn___init__ (fun vs H Q E h => ?_) (fun cdv A outer s H vs Q E hr h => ?_)
  · obtain ⟨a, C, v, rfl, _⟩ := h
    rfl
  · obtain ⟨a, C, v, rfl, ho, hn, ha, q⟩ := h
    refine ⟨_, (pss_one (ps_ost (pv 0) (pv 1))), ?_⟩
    walk_at "go"
    exact ⟨a, C, rfl, ho, hn, .inl ⟨ha, fun dx n ne => q dx n ne⟩⟩
theorem ok_BadBoundary___init__ (T : Top K mg AD) : FnOk P w K mg base CX0 1 AD.f_BadBoundary___init__ AD.d_BadBoundary___init__ P_BadBoundary___init__ (spE1 K "boundary") := by
  refine T.D_BadBoundary___init__.F.ok sc_BadBoundary___init__ (fun vs H Q E h => ?_) (fun cdv A outer s H vs Q E hr h => ?_)
  · obtain ⟨a, C, v, rfl, _⟩ := h
    rfl
  · obtain ⟨a, C, v, rfl, ho, hn, ha, q⟩ := h
    refine ⟨_, (pss_one (ps_ost (pv 0) (pv 1))), ?_⟩
    walk_at "go"
    exact ⟨a, C, rfl, ho, hn, .inl ⟨ha, fun dx n ne => q dx n ne⟩⟩
theorem ok_BadCard___init__ (T : Top K mg AD) : FnOk P w K mg base CX0 1 AD.f_BadCard___init__ AD.d_BadCard___init__ P_BadCard___init__ (spE2 K "index" "what") := by
  refine T.D_BadCard___init__.F.ok sc_BadCard___init__ (fun vs H Q E h => ?_) (fun cdv A outer s H vs Q E hr h => ?_)
  · obtain ⟨a, C, v, u, rfl, _⟩ := h
    rfl
  · obtain ⟨a, C, v, u, rfl, ho, hf, hg, ha, q⟩ := h
    refine ⟨_, (pss_cons (ps_ost (pv 0) (pv 1))
    (pss_one (ps_ost (pv 0) (pv 2)))), ?_⟩
    walk_at "go"
    refine ⟨a, C, rfl, ho, hf, .inl ⟨ha, fun dx n ne => ?_⟩⟩
    walk_at "go"
    exact ⟨a, C, rfl, ho, hg, .inr ⟨dx, _, upd_same, (upd_ne ne).trans upd_same, by show 1 ≤ 900; decide, q dx n ne⟩⟩
theorem ok_BadPlace___init__ (T : Top K mg AD) : FnOk P w K mg base CX0 1 AD.f_BadPlace___init__ AD.d_BadPlace___init__ P_BadPlace___init__ (spE2 K "column" "step") := by
  refine T.D_BadPlace___init__.F.ok sc_BadPlace___init__ (fun vs H Q E h => ?_) (fun cdv A outer s H vs Q E hr h => ?_)
  · obtain ⟨a, C, v, u, rfl, _⟩ := h
    rfl
  · obtain ⟨a, C, v, u, rfl, ho, hf, hg, ha, q⟩ := h
    refine ⟨_, (pss_cons (ps_ost (pv 0) (pv 1))
    (pss_one (ps_ost (pv 0) (pv 2)))), ?_⟩
    walk_at "go"
    refine ⟨a, C, rfl, ho, hf, .inl ⟨ha, fun dx n ne => ?_⟩⟩
    walk_at "go"
    exact ⟨a, C, rfl, ho, hg, .inr ⟨dx, _, upd_same, (upd_ne ne).trans upd_same, by show 1 ≤ 900; decide, q dx n ne⟩⟩
theorem ok_NoLayer___init__ (T : Top K mg AD) : FnOk P w K mg base CX0 1 AD.f_NoLayer___init__ AD.d_NoLayer___init__ P_NoLayer___init__ (spE1 K "layer") := by
  refine T.D_NoLayer___init__.F.ok sc_NoLayer___init__ (fun vs H Q E h => ?_) (fun cdv A outer s H vs Q E hr h => ?_)
  · obtain ⟨a, C, v, rfl, _⟩ := h
    rfl
  · obtain ⟨a, C, v, rfl, ho, hn, ha, q⟩ := h
    refine ⟨_, (pss_one (ps_ost (pv 0) (pv 1))), ?_⟩
    walk_at "go"
    exact ⟨a, C, rfl, ho, hn, .inl ⟨ha, fun dx n ne => q dx n ne⟩⟩
def b_is_number : Sf := (sRet (eAnd (eOpN (isiD CS) (aCons (eN 0) (aCons (eC (.ty "int")) aNil))) (eOp1 notD (eOpN (isiD CS) (aCons (eN 0) (aCons (eC (.ty "bool")) aNil))))))
def F_is_number : List D → R D := runP 1 b_is_number
theorem v_is_number (T : Top K mg AD) : FnOk P w K mg base (L2.CX P w) 1 AD.f_is_number AD.d_is_number P_is_number (spP (BT K AD) 1 F_is_number) := by
  exact fnP T.D_is_number.F sc_is_number 1 rfl rfl (by decide) fun cdv A outer s H E hr =>
  (vss_one (vs_ret (ve_and (ve_b (call_isiA rfl) (OpN.isi (kit T)) (by rfl) T.b_isinstance (by decide +kernel) (va_cons (ve_n 0) (va_cons (ve_tyv (by rfl) T.b_int (by decide +kernel)) va_nil))) (ve_one (ve_not (ve_b (call_isiA rfl) (OpN.isi (kit T)) (by rfl) T.b_isinstance (by decide +kernel) (va_cons (ve_n 0) (va_cons (ve_tyv (by rfl) T.b_bool (by decide +kernel)) va_nil))))))))
def b_is_whole : Sf := (sRet (eAnd (eCall 1 F_is_number (aCons (eN 0) aNil)) (eChain vLe vLe (eN 1) (eN 0) (eN 2))))
def F_is_whole : List D → R D := runP 3 b_is_whole
theorem v_is_whole (T : Top K mg AD) : FnOk P w K mg base (L2.CX P w) 2 AD.f_is_whole AD.d_is_whole P_is_whole (spP (BT K AD) 3 F_is_whole) := by
  exact fnP T.D_is_whole.F sc_is_whole 3 rfl rfl (by decide) fun cdv A outer s H E hr =>
  (vss_one (vs_ret (ve_and (ve_call F_is_number (v_is_number T) (hr.mono (by decide)) rfl T.D_is_number.g T.D_is_number.F.kp T.D_is_number.b (takes_of rfl rfl rfl rfl) (va_cons (ve_n 0) va_nil)) (ve_one (ve_chain op_le op_le Op2.cmp Op2.cmp (ve_n 1) (ve_n 0) (ve_n 2))))))
def b_is_sequence : Sf := (sRet (eIsiT CS (eN 0) (aCons (eC (.ty "list")) (aCons (eC (.ty "tuple")) aNil))))
def F_is_sequence : List D → R D := runP 1 b_is_sequence
theorem v_is_sequence (T : Top K mg AD) : FnOk P w K mg base (L2.CX P w) 1 AD.f_is_sequence AD.d_is_sequence P_is_sequence (spP (BT K AD) 1 F_is_sequence) := by
  exact fnP T.D_is_sequence.F sc_is_sequence 1 rfl rfl (by decide) fun cdv A outer s H E hr =>
  (vss_one (vs_ret (ve_isiT (kit T) rfl (by rfl) T.b_isinstance (by decide +kernel) (ve_n 0) (va_cons (ve_tyv (by rfl) T.b_list (by decide +kernel)) (va_cons (ve_tyv (by rfl) T.b_tuple (by decide +kernel)) va_nil)))))
def b_Column___eq__ : Sf := (sRet (eAnd (eOpN (isiD CS) (aCons (eN 1) (aCons (eC (.cl 0)) aNil))) (eOp2 vEq (eOp1 (fldD 0 0) (eN 0)) (eOp1 (fldD 0 0) (eN 1)))))
def F_Column___eq__ : List D → R D := runP 2 b_Column___eq__
def b_Card___eq__ : Sf := (sRet (eAnd (eOpN (isiD CS) (aCons (eN 1) (aCons (eC (.cl 1)) aNil))) (eAnd (eOp2 vEq (eOp1 (fldD 1 3) (eN 0)) (eOp1 (fldD 1 3) (eN 1))) (eOp2 vEq (eOp1 (fldD 1 4) (eN 0)) (eOp1 (fldD 1 4) (eN 1))))))
def F_Card___eq__ : List D → R D := runP 2 b_Card___eq__
def b_word_fault_1 : Sf := (sSeq (sAsg (eSl (eN 0) oNone (oSome (eN 1))) (gtN 2))
  (sIf (tB2 (eOp2 vGt (eM1 countD (eN 2) (eC (.str [111]))) (eM1 countD (eN 2) (eC (.str [100]))))) (sRet (eC (.str [98, 101, 108, 111, 119]))) sNil))
def b_word_fault : Sf := (sSeq (sIf (tOrD (tNotD (tT (eOpN (isiD CS) (aCons (eN 0) (aCons (eC (.ty "str")) aNil))))) (tNotD (tB2 (eChain vLe vLe (eC (.int 2)) (eOpN (g1 lenV) (aCons (eN 0) aNil)) (eOp2 (vI gMul) (eC (.int 2)) (eC (.int 6))))))) (sRet (eC (.str [119, 111, 114, 100]))) sNil)
  (sSeq (sIf (tNotD (tT (eOpN (g1 allD) (aCons (eOf (lLc [3] (iIt (eN 0)) (gtN 3) tTrue (eOp2 (vIn false) (eN 3) (eOpN gTupD (aCons (eC (.str [100])) (aCons (eC (.str [111])) aNil)))))) aNil)))) (sRet (eC (.str [119, 111, 114, 100]))) sNil)
  (sSeq (sIf (tB2 (eOp2 vNe (eM1 countD (eN 0) (eC (.str [100]))) (eM1 countD (eN 0) (eC (.str [111]))))) (sRet (eC (.str [99, 111, 117, 110, 116]))) sNil)
  (sSeq (sFor (iRange rg1 (aCons (eOpN (g1 lenV) (aCons (eN 0) aNil)) aNil)) (gtN 1)
  b_word_fault_1)
  (sRet (eC .non))))))
def F_word_fault : List D → R D := runP 4 b_word_fault
theorem v_word_fault (T : Top K mg AD) : FnOk P w K mg base (L2.CX P w) 1 AD.f_word_fault AD.d_word_fault P_word_fault (spP (BT K AD) 1 F_word_fault) := by
  obtain ⟨_, hc_MOST_SIZE⟩ := T.c_MOST_SIZE
  exact fnP T.D_word_fault.F sc_word_fault 1 rfl rfl (by decide) fun cdv A outer s H E hr =>
  (vss_cons (vs_if (VW.vt (vw_or (vt_not (vt_val rfl (ve_b (call_isiA rfl) (OpN.isi (kit T)) (by rfl) T.b_isinstance (by decide +kernel) (va_cons (ve_n 0) (va_cons (ve_tyv (by rfl) T.b_str (by decide +kernel)) va_nil))) (by intro _; rfl))) (vw_or1 (vt_not (vt_chain op_le op_le Op2.cmp Op2.cmp ve_int (ve_b (call_lenA rfl) OpN.len (by rfl) T.b_len (by decide +kernel) (va_cons (ve_n 0) va_nil)) (ve_op op_mul Op2.mul ve_int (ve_c (pe_glob (v := .int 6) rfl hc_MOST_SIZE ⟨_, rfl⟩) fun _ => .int _)))))))
  (vss_one (vs_ret (ve_s [119, 111, 114, 100] (by decide +kernel))))
  vss_nil)
  (vss_cons (vs_if (vt_not (vt_val rfl (ve_b (cr_allA rfl (by rfl)) OpN.allB (by rfl) T.b_all (by decide +kernel) (va_cons (VF.ve (vf_lc (own := [("letter", 3)]) (by rfl) sc_word_fault.nd (vi_any rfl (ve_n 0)) (blkOk_by (N := N_word_fault) (sc := defScope s_word_fault) (by decide +kernel)) rfl ⟨(gName 3), (fun _ _ _ _ _ => (pg_name (i := 3) sc_word_fault.nd rfl (by first | exact Or.inl rfl | exact Or.inr rfl))), gtN_ok⟩ (fun _ _ _ _ _ => vts_nil) (fun _ _ _ _ _ => (ve_cmp (op_inA rfl (Sl.Room.units65 hr)) Op2.inA (ve_n 3) (ve_tup (va_cons (ve_s [100] (by decide +kernel)) (va_cons (ve_s [111] (by decide +kernel)) va_nil))) (by rfl))))) va_nil)) (by intro _; rfl)))
  (vss_one (vs_ret (ve_s [119, 111, 114, 100] (by decide +kernel))))
  vss_nil)
  (vss_cons (vs_if (vt_cmp (op_neB rfl hr.units) Op2.ne (ve_m1 PySem.F.slot_str_count PySem.F.type_str_count mt_countS count_ok (ve_n 0) (ve_s [100] (by decide +kernel))) (ve_m1 PySem.F.slot_str_count PySem.F.type_str_count mt_countS count_ok (ve_n 0) (ve_s [111] (by decide +kernel))) (nomark _))
  (vss_one (vs_ret (ve_s [99, 111, 117, 110, 116] (by decide +kernel))))
  vss_nil)
  (vss_cons (vs_for (passes_of rfl) (by rfl) (vi_range1 (by rfl) T.b_range (va_cons (ve_b (call_lenA rfl) OpN.len (by rfl) T.b_len (by decide +kernel) (va_cons (ve_n 0) va_nil)) va_nil)) (vg_n 1 sc_word_fault.nd)
  (vss_cons (vs_set 2 sc_word_fault.nd (ve_sl rfl (ve_n 0) vo_none (vo_some (ve_n 1))))
  (vss_one (vs_if (vt_cmp op_gt Op2.cmp (ve_m1 PySem.F.slot_str_count PySem.F.type_str_count mt_countS count_ok (ve_n 2) (ve_s [111] (by decide +kernel))) (ve_m1 PySem.F.slot_str_count PySem.F.type_str_count mt_countS count_ok (ve_n 2) (ve_s [100] (by decide +kernel))) (nomark _))
  (vss_one (vs_ret (ve_s [98, 101, 108, 111, 119] (by decide +kernel))))
  vss_nil))))
  (vss_one (vs_ret ve_non))))))
def b_Column_heights_1 : Sf := (sApp 1 (eU (eOp2 vAdd (eOp2 vIx (eN 1) (eOp1 negD (eC (.int 1)))) (eIf (tB2 (eOp2 vEq (eN 2) (eC (.str [100])))) (eC (.int 1)) (eOp1 negD (eC (.int 1)))))))
def b_Column_heights : Sf := (sSeq (sOwn 1 (fun ρ s => ((aCons (eC (.int 0)) aNil) ρ s).bind fun ds s1 => opt (fitL ds) s1))
  (sSeq (sFor (iIt (eOp1 (fldD 0 0) (eN 0))) (gtN 2)
  b_Column_heights_1)
  (sFrz 1 (sRet (eOpN (g1 tupD) (aCons (eN 1) aNil))))))
def F_Column_heights : List D → R D := runP 3 b_Column_heights
def b_common_steps : Sf := (sSeq (sAsg (eProp 0 F_Column_heights (eN 0)) (gtN 2))
  (sSeq (sAsg (eProp 0 F_Column_heights (eN 1)) (gtN 3))
  (sRet (eOpN (g1 tupD) (aCons (eOf (lLc [4, 5] (iEnum (aCons (eOp1 (fldD 0 0) (eN 0)) aNil)) (gtT 2 (gtCons (gtN 4) (gtCons (gtN 5) gtNil))) (tAndD (tB2 (eOp2 vEq (eN 5) (eOp2 vIx (eOp1 (fldD 0 0) (eN 1)) (eN 4)))) (tB2 (eOp2 vEq (eOp2 vIx (eN 2) (eN 4)) (eOp2 vIx (eN 3) (eN 4))))) (eN 4))) aNil)))))
def F_common_steps : List D → R D := runP 6 b_common_steps
def b_Column___init__ : Sf := (sSeq (sAsg (eCall 1 F_word_fault (aCons (eN 1) aNil)) (gtN 2))
  (sSeq (sIf (tB2 (eOp2 (vIsN true) (eN 2) (eC .non))) (sRaise 4 1 (aCons (eN 2) aNil)) sNil)
  (sSeq (sSelf 0 0 (eN 1))
  (sSelf 0 1 (eM1 countD (eN 1) (eC (.str [100])))))))
def F_Column___init__ : List D → R D := runI 3 0 2 b_Column___init__
theorem v_Column___init__ (T : Top K mg AD) : FnOk P w K mg base (L2.CX P w) 3 AD.f_Column___init__ AD.d_Column___init__ P_Column___init__ (spI (BT K AD) 1 0 F_Column___init__) := by
  exact fnI (B := BT K AD) T.D_Column___init__.F sc_Column___init__ 1 0 rfl rfl (by decide) fun cdv A outer s H E hr =>
  (vss_cons (vs_set 2 sc_Column___init__.nd (ve_call F_word_fault (v_word_fault T) (hr.mono (by decide)) rfl T.D_word_fault.g T.D_word_fault.F.kp T.D_word_fault.b (takes_of rfl rfl rfl rfl) (va_cons (ve_n 1) va_nil)))
  (vss_cons (vs_if (vt_cmp op_notN Op2.notN (ve_n 2) ve_non (nomark _))
  (vss_one (vs_raise 4 1 (by rfl) (takes_of rfl rfl rfl rfl) rfl (spMk1 T.x_BadColumn.oex T.n_BadColumn_what rfl) (fun h => pmk_oex T.x_BadColumn.oex T.x_BadColumn.ini T.x_BadColumn.tI (ok_BadColumn___init__ T) (hr.mono (by decide)) T.D_BadColumn___init__.b .nil pass0 (by rfl) T.x_BadColumn.g h) (va_cons (ve_n 2) va_nil)))
  vss_nil)
  (vss_cons (vs_self 0 0 rfl (pv 0) T.cl_Column T.n_Column_word (fun vs y h => match vs, h with | [], _ => rfl) (by decide) (ve_n 1) rfl)
  (vss_one (vs_self 0 1 rfl (pv 0) T.cl_Column T.n_Column_size (fun vs y h => match vs, h with | [_], _ => rfl) (by decide) (ve_m1 PySem.F.slot_str_count PySem.F.type_str_count mt_countS count_ok (ve_n 1) (ve_s [100] (by decide +kernel))) rfl)))))
def b_Column_many : Sf := (sSeq (sIf (tNotD (tT (eCall 3 F_is_whole (aCons (eN 2) (aCons (eC (.int 0)) (aCons (eOpN (g1 lenV) (aCons (eOp1 (fldD 0 0) (eN 0)) aNil)) aNil)))))) (sRaise 5 1 (aCons (eN 2) aNil)) sNil)
  (sRet (eM1 countD (eSl (eOp1 (fldD 0 0) (eN 0)) oNone (oSome (eN 2))) (eN 1))))
def F_Column_many : List D → R D := runP 3 b_Column_many
theorem v_Column_many (T : Top K mg AD) : FnOk P w K mg base (L2.CX P w) 3 AD.f_Column_many AD.d_Column_many P_Column_many (spP (BT K AD) 3 F_Column_many) := by
  exact fnP T.D_Column_many.F sc_Column_many 3 rfl rfl (by decide) fun cdv A outer s H E hr =>
  (vss_cons (vs_if (vt_not (vt_val rfl (ve_call F_is_whole (v_is_whole T) (hr.mono (by decide)) rfl T.D_is_whole.g T.D_is_whole.F.kp T.D_is_whole.b (takes_of rfl rfl rfl rfl) (va_cons (ve_n 2) (va_cons ve_int (va_cons (ve_b (call_lenA rfl) OpN.len (by rfl) T.b_len (by decide +kernel) (va_cons (ve_fld 0 0 rfl T.cl_Column T.n_Column_word (fun vs h => match vs, h with | [_, _], _ => rfl) (ve_n 0)) va_nil)) va_nil)))) (by intro _; rfl)))
  (vss_one (vs_raise 5 1 (by rfl) (takes_of rfl rfl rfl rfl) rfl (spMk1 T.x_BadBoundary.oex T.n_BadBoundary_boundary rfl) (fun h => pmk_oex T.x_BadBoundary.oex T.x_BadBoundary.ini T.x_BadBoundary.tI (ok_BadBoundary___init__ T) (hr.mono (by decide)) T.D_BadBoundary___init__.b .nil pass0 (by rfl) T.x_BadBoundary.g h) (va_cons (ve_n 2) va_nil)))
  vss_nil)
  (vss_one (vs_ret (ve_m1 PySem.F.slot_str_count PySem.F.type_str_count mt_countS count_ok (ve_sl rfl (ve_fld 0 0 rfl T.cl_Column T.n_Column_word (fun vs h => match vs, h with | [_, _], _ => rfl) (ve_n 0)) vo_none (vo_some (ve_n 2))) (ve_n 1)))))
def b_Column_place : Sf := (sRet (eOpN gTupD (aCons (eMeth 0 2 F_Column_many (eN 0) (aCons (eC (.str [111])) (aCons (eN 1) aNil))) (aCons (eOp2 vSub (eAlt (eOp1 (fldD 0 1) (eN 0)) (eOp1 (fldD 1 1) (eN 0))) (eMeth 0 2 F_Column_many (eN 0) (aCons (eC (.str [100])) (aCons (eN 1) aNil)))) aNil))))
def F_Column_place : List D → R D := runP 2 b_Column_place
theorem v_Column_place (T : Top K mg AD) : FnOk P w K mg base (L2.CX P w) 4 AD.f_Column_place AD.d_Column_place P_Column_place (spP (BT K AD) 2 F_Column_place) := by
  exact fnP T.D_Column_place.F sc_Column_place 2 rfl rfl (by decide) fun cdv A outer s H E hr =>
  (vss_one (vs_ret (ve_tup (va_cons (ve_meth 0 2 F_Column_many T.cl_Column T.m_Column_many (v_Column_many T) (hr.mono (by decide)) T.D_Column_many.b (takes_of rfl rfl rfl rfl) (show ¬ (("many" : Str) ∈ (["word", "size"] : List Str)) from by decide) (ve_n 0) (va_cons (ve_s [111] (by decide +kernel)) (va_cons (ve_n 1) va_nil))) (va_cons (ve_op op_sub Op2.sub (ve_alt (ve_fld 0 1 rfl T.cl_Column T.n_Column_size (fun vs h => match vs, h with | [_, _], _ => rfl) (ve_n 0)) (ve_fld 1 1 rfl T.cl_Card T.n_Card_size (fun vs h => match vs, h with | [_, _, _, _, _], _ => rfl) (ve_n 0))) (ve_meth 0 2 F_Column_many T.cl_Column T.m_Column_many (v_Column_many T) (hr.mono (by decide)) T.D_Column_many.b (takes_of rfl rfl rfl rfl) (show ¬ (("many" : Str) ∈ (["word", "size"] : List Str)) from by decide) (ve_n 0) (va_cons (ve_s [100] (by decide +kernel)) (va_cons (ve_n 1) va_nil)))) va_nil)))))
def b_Column_height : Sf := (sRet (eOp2 vSub (eMeth 0 2 F_Column_many (eN 0) (aCons (eC (.str [100])) (aCons (eN 1) aNil))) (eMeth 0 2 F_Column_many (eN 0) (aCons (eC (.str [111])) (aCons (eN 1) aNil)))))
def F_Column_height : List D → R D := runP 2 b_Column_height
def b_Column___str__ : Sf := (sRet (eOpN (g1 strI) (aCons (eOp1 (fldD 0 0) (eN 0)) aNil)))
def F_Column___str__ : List D → R D := runP 1 b_Column___str__
def b_Column___len__ : Sf := (sRet (eOpN (g1 lenV) (aCons (eOp1 (fldD 0 0) (eN 0)) aNil)))
def F_Column___len__ : List D → R D := runP 1 b_Column___len__
def b_check_columns_1 : Sf := (sIf (tNotD (tT (eOpN (isiD CS) (aCons (eN 2) (aCons (eC (.cl 0)) aNil))))) (sRaise 7 2 (aCons (eN 1) (aCons (eC (.str [99, 111, 108, 117, 109, 110])) aNil))) sNil)
def b_check_columns_2 : Sf := (sIf (tB2 (eOp2 vNe (eAlt (eOp1 (fldD 0 1) (eN 2)) (eOp1 (fldD 1 1) (eN 2))) (eAlt (eOp1 (fldD 0 1) (eOp2 vIx (eN 0) (eC (.int 0)))) (eOp1 (fldD 1 1) (eOp2 vIx (eN 0) (eC (.int 0))))))) (sRaise 7 2 (aCons (eN 1) (aCons (eC (.str [115, 105, 122, 101])) aNil))) sNil)
def b_check_columns : Sf := (sSeq (sIf (tOrD (tNotD (tT (eCall 1 F_is_sequence (aCons (eN 0) aNil)))) (tNotD (tB2 (eChain vLe vLe (eC (.int 1)) (eOpN (g1 lenV) (aCons (eN 0) aNil)) (eC (.int 12)))))) (sRaise 7 2 (aCons (eC (.int 0)) (aCons (eC (.str [99, 111, 108, 117, 109, 110, 115])) aNil))) sNil)
  (sSeq (sFor (iEnum (aCons (eN 0) aNil)) (gtT 2 (gtCons (gtN 1) (gtCons (gtN 2) gtNil)))
  b_check_columns_1)
  (sFor (iEnum (aCons (eN 0) aNil)) (gtT 2 (gtCons (gtN 1) (gtCons (gtN 2) gtNil)))
  b_check_columns_2)))
def F_check_columns : List D → R D := runP 3 b_check_columns
theorem v_check_columns (T : Top K mg AD) : FnOk P w K mg base (L2.CX P w) 3 AD.f_check_columns AD.d_check_columns P_check_columns (spP (BT K AD) 1 F_check_columns) := by
  obtain ⟨_, hc_MOST_WIDTH⟩ := T.c_MOST_WIDTH
  exact fnP T.D_check_columns.F sc_check_columns 1 rfl rfl (by decide) fun cdv A outer s H E hr =>
  (vss_cons (vs_if (VW.vt (vw_or (vt_not (vt_val rfl (ve_call F_is_sequence (v_is_sequence T) (hr.mono (by decide)) rfl T.D_is_sequence.g T.D_is_sequence.F.kp T.D_is_sequence.b (takes_of rfl rfl rfl rfl) (va_cons (ve_n 0) va_nil)) (by intro _; rfl))) (vw_or1 (vt_not (vt_chain op_le op_le Op2.cmp Op2.cmp ve_int (ve_b (call_lenA rfl) OpN.len (by rfl) T.b_len (by decide +kernel) (va_cons (ve_n 0) va_nil)) (ve_c (pe_glob (v := .int 12) rfl hc_MOST_WIDTH ⟨_, rfl⟩) fun _ => .int _))))))
  (vss_one (vs_raise 7 2 (by rfl) (takes_of rfl rfl rfl rfl) rfl (spMk2 T.x_BadCard.oex T.n_BadCard_index T.n_BadCard_what rfl) (fun h => pmk_oex T.x_BadCard.oex T.x_BadCard.ini T.x_BadCard.tI (ok_BadCard___init__ T) (hr.mono (by decide)) T.D_BadCard___init__.b .nil pass0 (by rfl) T.x_BadCard.g h) (va_cons ve_int (va_cons (ve_s [99, 111, 108, 117, 109, 110, 115] (by decide +kernel)) va_nil))))
  vss_nil)
  (vss_cons (vs_for (passes_of rfl) (by rfl) (vi_enum rfl (by rfl) T.b_enumerate (va_cons (ve_n 0) va_nil)) (vg_t (n := 2) rfl (by rfl) (vgs_cons (vg_n 1 sc_check_columns.nd) (vgs_cons (vg_n 2 sc_check_columns.nd) vgs_nil)))
  (vss_one (vs_if (vt_not (vt_val rfl (ve_b (call_isiA rfl) (OpN.isi (kit T)) (by rfl) T.b_isinstance (by decide +kernel) (va_cons (ve_n 2) (va_cons (ve_clv 0 rfl T.g_Column) va_nil))) (by intro _; rfl)))
  (vss_one (vs_raise 7 2 (by rfl) (takes_of rfl rfl rfl rfl) rfl (spMk2 T.x_BadCard.oex T.n_BadCard_index T.n_BadCard_what rfl) (fun h => pmk_oex T.x_BadCard.oex T.x_BadCard.ini T.x_BadCard.tI (ok_BadCard___init__ T) (hr.mono (by decide)) T.D_BadCard___init__.b .nil pass0 (by rfl) T.x_BadCard.g h) (va_cons (ve_n 1) (va_cons (ve_s [99, 111, 108, 117, 109, 110] (by decide +kernel)) va_nil))))
  vss_nil)))
  (vss_one (vs_for (passes_of rfl) (by rfl) (vi_enum rfl (by rfl) T.b_enumerate (va_cons (ve_n 0) va_nil)) (vg_t (n := 2) rfl (by rfl) (vgs_cons (vg_n 1 sc_check_columns.nd) (vgs_cons (vg_n 2 sc_check_columns.nd) vgs_nil)))
  (vss_one (vs_if (vt_cmp (op_neB rfl hr.units) Op2.ne (ve_alt (ve_fld 0 1 rfl T.cl_Column T.n_Column_size (fun vs h => match vs, h with | [_, _], _ => rfl) (ve_n 2)) (ve_fld 1 1 rfl T.cl_Card T.n_Card_size (fun vs h => match vs, h with | [_, _, _, _, _], _ => rfl) (ve_n 2))) (ve_alt (ve_fld 0 1 rfl T.cl_Column T.n_Column_size (fun vs h => match vs, h with | [_, _], _ => rfl) (ve_ix (ix_A rfl) Op2.ix (ve_n 0) ve_int (fun _ _ => rfl))) (ve_fld 1 1 rfl T.cl_Card T.n_Card_size (fun vs h => match vs, h with | [_, _, _, _, _], _ => rfl) (ve_ix (ix_A rfl) Op2.ix (ve_n 0) ve_int (fun _ _ => rfl)))) (nomark _))
  (vss_one (vs_raise 7 2 (by rfl) (takes_of rfl rfl rfl rfl) rfl (spMk2 T.x_BadCard.oex T.n_BadCard_index T.n_BadCard_what rfl) (fun h => pmk_oex T.x_BadCard.oex T.x_BadCard.ini T.x_BadCard.tI (ok_BadCard___init__ T) (hr.mono (by decide)) T.D_BadCard___init__.b .nil pass0 (by rfl) T.x_BadCard.g h) (va_cons (ve_n 1) (va_cons (ve_s [115, 105, 122, 101] (by decide +kernel)) va_nil))))
  vss_nil))))))
def b_mark_of : Sf := (sSeq (sIf (tOrD (tNotD (tT (eCall 1 F_is_sequence (aCons (eN 0) aNil)))) (tB2 (eOp2 vNe (eOpN (g1 lenV) (aCons (eN 0) aNil)) (eC (.int 2))))) (sRet (eC .non)) sNil)
  (sSeq (sAsg (eN 0) (gtT 2 (gtCons (gtN 3) (gtCons (gtN 4) gtNil))))
  (sSeq (sIf (tAndD (tT (eCall 3 F_is_whole (aCons (eN 3) (aCons (eC (.int 0)) (aCons (eOp2 vSub (eN 2) (eC (.int 2))) aNil))))) (tT (eCall 3 F_is_whole (aCons (eN 4) (aCons (eC (.int 1)) (aCons (eOp2 vSub (eOp2 (vI gMul) (eC (.int 2)) (eN 1)) (eC (.int 2))) aNil)))))) (sRet (eOpN gTupD (aCons (eN 3) (aCons (eN 4) aNil)))) sNil)
  (sRet (eC .non)))))
def F_mark_of : List D → R D := runP 5 b_mark_of
theorem v_mark_of (T : Top K mg AD) : FnOk P w K mg base (L2.CX P w) 3 AD.f_mark_of AD.d_mark_of P_mark_of (spP (BT K AD) 3 F_mark_of) := by
  exact fnP T.D_mark_of.F sc_mark_of 3 rfl rfl (by decide) fun cdv A outer s H E hr =>
  (vss_cons (vs_if (VW.vt (vw_or (vt_not (vt_val rfl (ve_call F_is_sequence (v_is_sequence T) (hr.mono (by decide)) rfl T.D_is_sequence.g T.D_is_sequence.F.kp T.D_is_sequence.b (takes_of rfl rfl rfl rfl) (va_cons (ve_n 0) va_nil)) (by intro _; rfl))) (vw_or1 (vt_cmp (op_neB rfl hr.units) Op2.ne (ve_b (call_lenA rfl) OpN.len (by rfl) T.b_len (by decide +kernel) (va_cons (ve_n 0) va_nil)) ve_int (nomark _)))))
  (vss_one (vs_ret ve_non))
  vss_nil)
  (vss_cons (vs_asg (ve_n 0) (vg_t (n := 2) rfl (by rfl) (vgs_cons (vg_n 3 sc_mark_of.nd) (vgs_cons (vg_n 4 sc_mark_of.nd) vgs_nil))))
  (vss_cons (vs_if (VW.vt (vw_and (vt_val rfl (ve_call F_is_whole (v_is_whole T) (hr.mono (by decide)) rfl T.D_is_whole.g T.D_is_whole.F.kp T.D_is_whole.b (takes_of rfl rfl rfl rfl) (va_cons (ve_n 3) (va_cons ve_int (va_cons (ve_op op_sub Op2.sub (ve_n 2) ve_int) va_nil)))) (by intro _; rfl)) (vw_and1 (vt_val rfl (ve_call F_is_whole (v_is_whole T) (hr.mono (by decide)) rfl T.D_is_whole.g T.D_is_whole.F.kp T.D_is_whole.b (takes_of rfl rfl rfl rfl) (va_cons (ve_n 4) (va_cons ve_int (va_cons (ve_op op_sub Op2.sub (ve_op op_mul Op2.mul ve_int (ve_n 1)) ve_int) va_nil)))) (by intro _; rfl)))))
  (vss_one (vs_ret (ve_tup (va_cons (ve_n 3) (va_cons (ve_n 4) va_nil)))))
  vss_nil)
  (vss_one (vs_ret ve_non)))))
def b_new_marks_1 : Sf := (sSeq (sAsg (eCall 3 F_mark_of (aCons (eN 6) (aCons (eN 1) (aCons (eN 2) aNil)))) (gtN 7))
  (sSeq (sIf (tB2 (eOp2 (vIsN false) (eN 7) (eC .non))) (sRaise 7 2 (aCons (eN 5) (aCons (eC (.str [109, 97, 114, 107])) aNil))) sNil)
  (sSeq (sIf (tU (tOrD (tB2 (eOp2 (vIn false) (eN 7) (eN 3))) (tB2 (eOp2 (vIn false) (eN 7) (eN 4))))) (sRaise 7 2 (aCons (eN 5) (aCons (eC (.str [100, 111, 117, 98, 108, 101])) aNil))) sNil)
  (sApp 4 (eN 7)))))
def b_new_marks : Sf := (sSeq (sIf (tNotD (tT (eCall 1 F_is_sequence (aCons (eN 0) aNil)))) (sRaise 7 2 (aCons (eC (.int 0)) (aCons (eC (.str [109, 97, 114, 107, 115])) aNil))) sNil)
  (sSeq (sOwn 4 (fun ρ s => (aNil ρ s).bind fun ds s1 => opt (fitL ds) s1))
  (sSeq (sFor (iEnum (aCons (eN 0) aNil)) (gtT 2 (gtCons (gtN 5) (gtCons (gtN 6) gtNil)))
  b_new_marks_1)
  (sFrz 4 (sRet (eN 4))))))
def F_new_marks : List D → R D := runP 8 b_new_marks
theorem v_new_marks (T : Top K mg AD) : FnOk P w K mg base (L2.CX P w) 4 AD.f_new_marks AD.d_new_marks P_new_marks (spP (BT K AD) 4 F_new_marks) := by
  exact fnP T.D_new_marks.F sc_new_marks 4 rfl rfl (by decide) fun cdv A outer s H E hr =>
  (vss_cons (vs_if (vt_not (vt_val rfl (ve_call F_is_sequence (v_is_sequence T) (hr.mono (by decide)) rfl T.D_is_sequence.g T.D_is_sequence.F.kp T.D_is_sequence.b (takes_of rfl rfl rfl rfl) (va_cons (ve_n 0) va_nil)) (by intro _; rfl)))
  (vss_one (vs_raise 7 2 (by rfl) (takes_of rfl rfl rfl rfl) rfl (spMk2 T.x_BadCard.oex T.n_BadCard_index T.n_BadCard_what rfl) (fun h => pmk_oex T.x_BadCard.oex T.x_BadCard.ini T.x_BadCard.tI (ok_BadCard___init__ T) (hr.mono (by decide)) T.D_BadCard___init__.b .nil pass0 (by rfl) T.x_BadCard.g h) (va_cons ve_int (va_cons (ve_s [109, 97, 114, 107, 115] (by decide +kernel)) va_nil))))
  vss_nil)
  (vss_cons (vs_own 4 sc_new_marks.nd (vf_lst va_nil))
  (vss_cons (vs_for (passes_of rfl) (by rfl) (vi_enum rfl (by rfl) T.b_enumerate (va_cons (ve_n 0) va_nil)) (vg_t (n := 2) rfl (by rfl) (vgs_cons (vg_n 5 sc_new_marks.nd) (vgs_cons (vg_n 6 sc_new_marks.nd) vgs_nil)))
  (vss_cons (vs_set 7 sc_new_marks.nd (ve_call F_mark_of (v_mark_of T) (hr.mono (by decide)) rfl T.D_mark_of.g T.D_mark_of.F.kp T.D_mark_of.b (takes_of rfl rfl rfl rfl) (va_cons (ve_n 6) (va_cons (ve_n 1) (va_cons (ve_n 2) va_nil)))))
  (vss_cons (vs_if (vt_cmp op_isN Op2.isN (ve_n 7) ve_non (nomark _))
  (vss_one (vs_raise 7 2 (by rfl) (takes_of rfl rfl rfl rfl) rfl (spMk2 T.x_BadCard.oex T.n_BadCard_index T.n_BadCard_what rfl) (fun h => pmk_oex T.x_BadCard.oex T.x_BadCard.ini T.x_BadCard.tI (ok_BadCard___init__ T) (hr.mono (by decide)) T.D_BadCard___init__.b .nil pass0 (by rfl) T.x_BadCard.g h) (va_cons (ve_n 5) (va_cons (ve_s [109, 97, 114, 107] (by decide +kernel)) va_nil))))
  vss_nil)
  (vss_cons (vs_if (vt_u (VW.vt (vw_or (vt_cmp (op_inA rfl (Sl.Room.units65 hr)) Op2.inA (ve_n 7) (ve_n 3) (by rfl)) (vw_or1 (vt_cmp (op_inA rfl (Sl.Room.units65 hr)) Op2.inA (ve_n 7) (ve_n 4) (by rfl))))))
  (vss_one (vs_raise 7 2 (by rfl) (takes_of rfl rfl rfl rfl) rfl (spMk2 T.x_BadCard.oex T.n_BadCard_index T.n_BadCard_what rfl) (fun h => pmk_oex T.x_BadCard.oex T.x_BadCard.ini T.x_BadCard.tI (ok_BadCard___init__ T) (hr.mono (by decide)) T.D_BadCard___init__.b .nil pass0 (by rfl) T.x_BadCard.g h) (va_cons (ve_n 5) (va_cons (ve_s [100, 111, 117, 98, 108, 101] (by decide +kernel)) va_nil))))
  vss_nil)
  (vss_one (vs_app 4 (ve_n 7) rfl (fun h => pe_bm PySem.F.plainAttrs_list PySem.F.slot_list_append PySem.F.type_list_append mt_append (pv 4) h)))))))
  (vss_one (vs_frz 4 (vs_ret (ve_n 4)))))))
def b_Card___init__ : Sf := (sSeq (sExpr (eCall 1 F_check_columns (aCons (eN 1) aNil)))
  (sSeq (sSelf 1 0 (eOpN (g1 tupD) (aCons (eN 1) aNil)))
  (sSeq (sSelf 1 1 (eAlt (eOp1 (fldD 0 1) (eOp2 vIx (eN 1) (eC (.int 0)))) (eOp1 (fldD 1 1) (eOp2 vIx (eN 1) (eC (.int 0))))))
  (sSeq (sSelf 1 2 (eOpN (g1 lenV) (aCons (eN 1) aNil)))
  (sSeq (sSelf 1 3 (eOpN (g1 tupD) (aCons (eOf (lLc [3] (iIt (eN 1)) (gtN 3) tTrue (eOp1 (fldD 0 0) (eN 3)))) aNil)))
  (sSelf 1 4 (eOpN (g1 tupD) (aCons (eOpN (g1 sortD) (aCons (eCall 4 F_new_marks (aCons (eN 2) (aCons (eOb 1 1) (aCons (eOb 1 2) (aCons (eOpN gTupD aNil) aNil))))) aNil)) aNil))))))))
def F_Card___init__ : List D → R D := runI 4 1 5 b_Card___init__
theorem v_Card___init__ (T : Top K mg AD) : FnOk P w K mg base (L2.CX P w) 5 AD.f_Card___init__ AD.d_Card___init__ P_Card___init__ (spI (BT K AD) 2 1 F_Card___init__) := by
  exact fnIV (B := BT K AD) T.D_Card___init__.F sc_Card___init__ 2 1 rfl rfl (by decide) fun cdv A outer s H E hr =>
  (vss_cons (vs_expr (ve_call F_check_columns (v_check_columns T) (hr.mono (by decide)) rfl T.D_check_columns.g T.D_check_columns.F.kp T.D_check_columns.b (takes_of rfl rfl rfl rfl) (va_cons (ve_n 1) va_nil)))
  (vss_cons (vs_self 1 0 rfl (pv 0) T.cl_Card T.n_Card_columns (fun vs y h => match vs, h with | [], _ => rfl) (by decide) (ve_ty (call_tupA rfl) OpN.tup (by rfl) T.b_tuple (by decide +kernel) (va_cons (ve_n 1) va_nil)) rfl)
  (vss_cons (vs_self 1 1 rfl (pv 0) T.cl_Card T.n_Card_size (fun vs y h => match vs, h with | [_], _ => rfl) (by decide) (ve_alt (ve_fld 0 1 rfl T.cl_Column T.n_Column_size (fun vs h => match vs, h with | [_, _], _ => rfl) (ve_ix (ix_A rfl) Op2.ix (ve_n 1) ve_int (fun _ _ => rfl))) (ve_fld 1 1 rfl T.cl_Card T.n_Card_size (fun vs h => match vs, h with | [_, _, _, _, _], _ => rfl) (ve_ix (ix_A rfl) Op2.ix (ve_n 1) ve_int (fun _ _ => rfl)))) rfl)
  (vss_cons (vs_self 1 2 rfl (pv 0) T.cl_Card T.n_Card_width (fun vs y h => match vs, h with | [_, _], _ => rfl) (by decide) (ve_b (call_lenA rfl) OpN.len (by rfl) T.b_len (by decide +kernel) (va_cons (ve_n 1) va_nil)) rfl)
  (vss_cons (vs_self 1 3 rfl (pv 0) T.cl_Card T.n_Card_words (fun vs y h => match vs, h with | [_, _, _], _ => rfl) (by decide) (ve_ty (call_tupA rfl) OpN.tup (by rfl) T.b_tuple (by decide +kernel) (va_cons (VF.ve (vf_lc (own := [("column", 3)]) (by rfl) sc_Card___init__.nd (vi_any rfl (ve_n 1)) (blkOk_by (N := N_Card___init__) (sc := defScope s_Card___init__) (by decide +kernel)) rfl ⟨(gName 3), (fun _ _ _ _ _ => (pg_name (i := 3) sc_Card___init__.nd rfl (by first | exact Or.inl rfl | exact Or.inr rfl))), gtN_ok⟩ (fun _ _ _ _ _ => vts_nil) (fun _ _ _ _ _ => (ve_fld 0 0 rfl T.cl_Column T.n_Column_word (fun vs h => match vs, h with | [_, _], _ => rfl) (ve_n 3))))) va_nil)) rfl)
  (vss_one (vs_self 1 4 rfl (pv 0) T.cl_Card T.n_Card_marks (fun vs y h => match vs, h with | [_, _, _, _], _ => rfl) (by decide) (ve_ty (call_tupA rfl) OpN.tup (by rfl) T.b_tuple (by decide +kernel) (va_cons (ve_b (cr_sortD rfl hr.units) OpN.sort (by rfl) T.b_sorted (by decide +kernel) (va_cons (ve_call F_new_marks (v_new_marks T) (hr.mono (by decide)) rfl T.D_new_marks.g T.D_new_marks.F.kp T.D_new_marks.b (takes_of rfl rfl rfl rfl) (va_cons (ve_n 2) (va_cons (ve_ob 1 1 rfl (pv 0) T.cl_Card T.n_Card_size ⟨rfl, (show ¬ (("size" : Str) ∈ (["columns"] : List Str)) from by decide)⟩) (va_cons (ve_ob 1 2 rfl (pv 0) T.cl_Card T.n_Card_width ⟨rfl, (show ¬ (("width" : Str) ∈ (["columns", "size"] : List Str)) from by decide)⟩) (va_cons (ve_tup va_nil) va_nil))))) va_nil)) va_nil)) rfl)))))))
def b_Card_common : Sf := (sSeq (sIf (tNotD (tT (eCall 3 F_is_whole (aCons (eN 1) (aCons (eC (.int 0)) (aCons (eOp2 vSub (eOp1 (fldD 1 2) (eN 0)) (eC (.int 2))) aNil)))))) (sRaise 3 1 (aCons (eN 1) aNil)) sNil)
  (sRet (eCall 2 F_common_steps (aCons (eOp2 vIx (eOp1 (fldD 1 0) (eN 0)) (eN 1)) (aCons (eOp2 vIx (eOp1 (fldD 1 0) (eN 0)) (eOp2 vAdd (eN 1) (eC (.int 1)))) aNil)))))
def F_Card_common : List D → R D := runP 2 b_Card_common
def b_Card___len__ : Sf := (sRet (eOpN (g1 lenV) (aCons (eOp1 (fldD 1 0) (eN 0)) aNil)))
def F_Card___len__ : List D → R D := runP 1 b_Card___len__
def b_check_column : Sf := (sIf (tNotD (tT (eCall 3 F_is_whole (aCons (eN 1) (aCons (eC (.int 0)) (aCons (eOp2 vSub (eOp1 (fldD 1 2) (eN 0)) (eC (.int 1))) aNil)))))) (sRaise 3 1 (aCons (eN 1) aNil)) sNil)
def F_check_column : List D → R D := runP 2 b_check_column
theorem v_check_column (T : Top K mg AD) : FnOk P w K mg base (L2.CX P w) 3 AD.f_check_column AD.d_check_column P_check_column (spP (BT K AD) 2 F_check_column) := by
  exact fnP T.D_check_column.F sc_check_column 2 rfl rfl (by decide) fun cdv A outer s H E hr =>
  (vss_one (vs_if (vt_not (vt_val rfl (ve_call F_is_whole (v_is_whole T) (hr.mono (by decide)) rfl T.D_is_whole.g T.D_is_whole.F.kp T.D_is_whole.b (takes_of rfl rfl rfl rfl) (va_cons (ve_n 1) (va_cons ve_int (va_cons (ve_op op_sub Op2.sub (ve_fld 1 2 rfl T.cl_Card T.n_Card_width (fun vs h => match vs, h with | [_, _, _, _, _], _ => rfl) (ve_n 0)) ve_int) va_nil)))) (by intro _; rfl)))
  (vss_one (vs_raise 3 1 (by rfl) (takes_of rfl rfl rfl rfl) rfl (spMk1 T.x_NoColumn.oex T.n_NoColumn_column rfl) (fun h => pmk_oex T.x_NoColumn.oex T.x_NoColumn.ini T.x_NoColumn.tI (ok_NoColumn___init__ T) (hr.mono (by decide)) T.D_NoColumn___init__.b .nil pass0 (by rfl) T.x_NoColumn.g h) (va_cons (ve_n 1) va_nil)))
  vss_nil))
def b_check_layer : Sf := (sSeq (sExpr (eCall 2 F_check_column (aCons (eN 0) (aCons (eN 1) aNil))))
  (sIf (tNotD (tT (eCall 3 F_is_whole (aCons (eN 2) (aCons (eC (.int 0)) (aCons (eOp2 vSub (eAlt (eOp1 (fldD 0 1) (eN 0)) (eOp1 (fldD 1 1) (eN 0))) (eC (.int 1))) aNil)))))) (sRaise 66 1 (aCons (eN 2) aNil)) sNil))
def F_check_layer : List D → R D := runP 3 b_check_layer
theorem v_check_layer (T : Top K mg AD) : FnOk P w K mg base (L2.CX P w) 4 AD.f_check_layer AD.d_check_layer P_check_layer (spP (BT K AD) 3 F_check_layer) := by
  exact fnP T.D_check_layer.F sc_check_layer 3 rfl rfl (by decide) fun cdv A outer s H E hr =>
  (vss_cons (vs_expr (ve_call F_check_column (v_check_column T) (hr.mono (by decide)) rfl T.D_check_column.g T.D_check_column.F.kp T.D_check_column.b (takes_of rfl rfl rfl rfl) (va_cons (ve_n 0) (va_cons (ve_n 1) va_nil))))
  (vss_one (vs_if (vt_not (vt_val rfl (ve_call F_is_whole (v_is_whole T) (hr.mono (by decide)) rfl T.D_is_whole.g T.D_is_whole.F.kp T.D_is_whole.b (takes_of rfl rfl rfl rfl) (va_cons (ve_n 2) (va_cons ve_int (va_cons (ve_op op_sub Op2.sub (ve_alt (ve_fld 0 1 rfl T.cl_Column T.n_Column_size (fun vs h => match vs, h with | [_, _], _ => rfl) (ve_n 0)) (ve_fld 1 1 rfl T.cl_Card T.n_Card_size (fun vs h => match vs, h with | [_, _, _, _, _], _ => rfl) (ve_n 0))) ve_int) va_nil)))) (by intro _; rfl)))
  (vss_one (vs_raise 66 1 (by rfl) (takes_of rfl rfl rfl rfl) rfl (spMk1 T.x_NoLayer.oex T.n_NoLayer_layer rfl) (fun h => pmk_oex T.x_NoLayer.oex T.x_NoLayer.ini T.x_NoLayer.tI (ok_NoLayer___init__ T) (hr.mono (by decide)) T.D_NoLayer___init__.b .nil pass0 (by rfl) T.x_NoLayer.g h) (va_cons (ve_n 2) va_nil)))
  vss_nil)))
def b_step_layers : Sf := (sRet (eOf (lLc [1, 2] (iPwH 0 (eN 0)) (gtT 2 (gtCons (gtN 1) (gtCons (gtN 2) gtNil))) tTrue (eOp2 vSub (eAlt (eOp1 (fldD 0 1) (eN 0)) (eOp1 (fldD 1 1) (eN 0))) (eOpN (two fun i j => if j > i then j else i) (aCons (eN 1) (aCons (eN 2) aNil)))))))
def F_step_layers : List D → R D := runP 3 b_step_layers
theorem v_step_layers (T : Top K mg AD) : FnOk P w K mg base (L2.CX P w) 3 AD.f_step_layers AD.d_step_layers P_step_layers (spP (BT K AD) 1 F_step_layers) := by
  exact fnP T.D_step_layers.F sc_step_layers 1 rfl rfl (by decide) fun cdv A outer s H E hr =>
  (vss_one (vs_ret (VF.ve (vf_lc (own := [("height", 1), ("other", 2)]) (by rfl) sc_step_layers.nd (vi_pwH 0 T.cl_Column T.p_Column_heights (ok_ht T) (hr.mono (by decide)) T.D_Column_heights.b (fun vs h => match vs, h with | [_, _], _ => rfl) (by rfl) T.im_pairwise (ve_n 0)) (blkOk_by (N := N_step_layers) (sc := defScope s_step_layers) (by decide +kernel)) rfl ⟨(gTup K 2 (gCons (gName 1) (gCons (gName 2) gNil))), (fun _ _ _ _ _ => (pg_tupK (K := K) (n := 2) (by rfl) (by rfl) (pgs_cons (pg_name (i := 1) sc_step_layers.nd rfl (by first | exact Or.inl rfl | exact Or.inr rfl)) (pgs_cons (pg_name (i := 2) sc_step_layers.nd rfl (by first | exact Or.inl rfl | exact Or.inr rfl)) pgs_nil)))), (gtT_ok (B := BT K AD) rfl (gtCons_ok gtN_ok (gtCons_ok gtN_ok gtNil_ok)))⟩ (fun _ _ _ _ _ => vts_nil) (fun _ _ _ _ _ => (ve_op op_sub Op2.sub (ve_alt (ve_fld 0 1 rfl T.cl_Column T.n_Column_size (fun vs h => match vs, h with | [_, _], _ => rfl) (ve_n 0)) (ve_fld 1 1 rfl T.cl_Card T.n_Card_size (fun vs h => match vs, h with | [_, _, _, _, _], _ => rfl) (ve_n 0))) (ve_b (call_max2A (by rfl)) OpN.two (by rfl) T.b_max (by decide +kernel) (va_cons (ve_n 1) (va_cons (ve_n 2) va_nil)))))))))
def b_layer_of : Sf := (sSeq (sIf (tOrD (tNotD (tT (eCall 3 F_is_whole (aCons (eN 1) (aCons (eC (.int 0)) (aCons (eOp2 vSub (eOp1 (fldD 1 2) (eN 0)) (eC (.int 1))) aNil)))))) (tNotD (tT (eCall 3 F_is_whole (aCons (eN 2) (aCons (eC (.int 0)) (aCons (eOp2 vSub (eOp2 (vI gMul) (eC (.int 2)) (eAlt (eOp1 (fldD 0 1) (eN 0)) (eOp1 (fldD 1 1) (eN 0)))) (eC (.int 1))) aNil))))))) (sRaise 9 2 (aCons (eN 1) (aCons (eN 2) aNil))) sNil)
  (sRet (eOp2 vIx (eCall 1 F_step_layers (aCons (eOp2 vIx (eOp1 (fldD 1 0) (eN 0)) (eN 1)) aNil)) (eN 2))))
def F_layer_of : List D → R D := runP 3 b_layer_of
theorem v_layer_of (T : Top K mg AD) : FnOk P w K mg base (L2.CX P w) 4 AD.f_layer_of AD.d_layer_of P_layer_of (spP (BT K AD) 3 F_layer_of) := by
  exact fnP T.D_layer_of.F sc_layer_of 3 rfl rfl (by decide) fun cdv A outer s H E hr =>
  (vss_cons (vs_if (VW.vt (vw_or (vt_not (vt_val rfl (ve_call F_is_whole (v_is_whole T) (hr.mono (by decide)) rfl T.D_is_whole.g T.D_is_whole.F.kp T.D_is_whole.b (takes_of rfl rfl rfl rfl) (va_cons (ve_n 1) (va_cons ve_int (va_cons (ve_op op_sub Op2.sub (ve_fld 1 2 rfl T.cl_Card T.n_Card_width (fun vs h => match vs, h with | [_, _, _, _, _], _ => rfl) (ve_n 0)) ve_int) va_nil)))) (by intro _; rfl))) (vw_or1 (vt_not (vt_val rfl (ve_call F_is_whole (v_is_whole T) (hr.mono (by decide)) rfl T.D_is_whole.g T.D_is_whole.F.kp T.D_is_whole.b (takes_of rfl rfl rfl rfl) (va_cons (ve_n 2) (va_cons ve_int (va_cons (ve_op op_sub Op2.sub (ve_op op_mul Op2.mul ve_int (ve_alt (ve_fld 0 1 rfl T.cl_Column T.n_Column_size (fun vs h => match vs, h with | [_, _], _ => rfl) (ve_n 0)) (ve_fld 1 1 rfl T.cl_Card T.n_Card_size (fun vs h => match vs, h with | [_, _, _, _, _], _ => rfl) (ve_n 0)))) ve_int) va_nil)))) (by intro _; rfl))))))
  (vss_one (vs_raise 9 2 (by rfl) (takes_of rfl rfl rfl rfl) rfl (spMk2 T.x_BadPlace.oex T.n_BadPlace_column T.n_BadPlace_step rfl) (fun h => pmk_oex T.x_BadPlace.oex T.x_BadPlace.ini T.x_BadPlace.tI (ok_BadPlace___init__ T) (hr.mono (by decide)) T.D_BadPlace___init__.b .nil pass0 (by rfl) T.x_BadPlace.g h) (va_cons (ve_n 1) (va_cons (ve_n 2) va_nil))))
  vss_nil)
  (vss_one (vs_ret (ve_ix (ix_A rfl) Op2.ix (ve_call F_step_layers (v_step_layers T) (hr.mono (by decide)) rfl T.D_step_layers.g T.D_step_layers.F.kp T.D_step_layers.b (takes_of rfl rfl rfl rfl) (va_cons (ve_ix (ix_A rfl) Op2.ix (ve_fld 1 0 rfl T.cl_Card T.n_Card_columns (fun vs h => match vs, h with | [_, _, _, _, _], _ => rfl) (ve_n 0)) (ve_n 1) (fun _ _ => rfl)) va_nil)) (ve_n 2) (fun _ _ => rfl)))))
def b_layer_steps : Sf := (sSeq (sExpr (eCall 3 F_check_layer (aCons (eN 0) (aCons (eN 1) (aCons (eN 2) aNil)))))
  (sRet (eOpN (g1 tupD) (aCons (eOf (lLc [3, 4] (iEnum (aCons (eCall 1 F_step_layers (aCons (eOp2 vIx (eOp1 (fldD 1 0) (eN 0)) (eN 1)) aNil)) aNil)) (gtT 2 (gtCons (gtN 3) (gtCons (gtN 4) gtNil))) (tB2 (eOp2 vEq (eN 4) (eN 2))) (eN 3))) aNil))))
def F_layer_steps : List D → R D := runP 5 b_layer_steps
theorem v_layer_steps (T : Top K mg AD) : FnOk P w K mg base (L2.CX P w) 5 AD.f_layer_steps AD.d_layer_steps P_layer_steps (spP (BT K AD) 3 F_layer_steps) := by
  exact fnP T.D_layer_steps.F sc_layer_steps 3 rfl rfl (by decide) fun cdv A outer s H E hr =>
  (vss_cons (vs_expr (ve_call F_check_layer (v_check_layer T) (hr.mono (by decide)) rfl T.D_check_layer.g T.D_check_layer.F.kp T.D_check_layer.b (takes_of rfl rfl rfl rfl) (va_cons (ve_n 0) (va_cons (ve_n 1) (va_cons (ve_n 2) va_nil)))))
  (vss_one (vs_ret (ve_ty (call_tupA rfl) OpN.tup (by rfl) T.b_tuple (by decide +kernel) (va_cons (VF.ve (vf_lc (own := [("t", 3), ("layer", 4)]) (by rfl) sc_layer_steps.nd (vi_enum rfl (by rfl) T.b_enumerate (va_cons (ve_call F_step_layers (v_step_layers T) (hr.mono (by decide)) rfl T.D_step_layers.g T.D_step_layers.F.kp T.D_step_layers.b (takes_of rfl rfl rfl rfl) (va_cons (ve_ix (ix_A rfl) Op2.ix (ve_fld 1 0 rfl T.cl_Card T.n_Card_columns (fun vs h => match vs, h with | [_, _, _, _, _], _ => rfl) (ve_n 0)) (ve_n 1) (fun _ _ => rfl)) va_nil)) va_nil)) (blkOk_by (N := N_layer_steps) (sc := defScope s_layer_steps) (by decide +kernel)) rfl ⟨(gTup K 2 (gCons (gName 3) (gCons (gName 4) gNil))), (fun _ _ _ _ _ => (pg_tupK (K := K) (n := 2) (by rfl) (by rfl) (pgs_cons (pg_name (i := 3) sc_layer_steps.nd rfl (by first | exact Or.inl rfl | exact Or.inr rfl)) (pgs_cons (pg_name (i := 4) sc_layer_steps.nd rfl (by first | exact Or.inl rfl | exact Or.inr rfl)) pgs_nil)))), (gtT_ok (B := BT K AD) rfl (gtCons_ok gtN_ok (gtCons_ok gtN_ok gtNil_ok)))⟩ (fun _ _ _ _ _ => (vts_one (vt_cmp (op_eqB rfl hr.units) Op2.eq (ve_n 4) (ve_n 2) (nomark _)))) (fun _ _ _ _ _ => (ve_n 3)))) va_nil)))))
def b_middle_of : Sf := (sSeq (sAsg (eMeth 0 1 F_Column_place (eN 0) (aCons (eN 1) aNil)) (gtT 2 (gtCons (gtN 2) (gtCons (gtN 3) gtNil))))
  (sRet (eIf (tB2 (eOp2 vEq (eOp2 vIx (eOp1 (fldD 0 0) (eN 0)) (eN 1)) (eC (.str [100])))) (eOpN gTupD (aCons (eOp2 (vI gMul) (eC (.int 2)) (eN 2)) (aCons (eOp2 vSub (eOp2 (vI gMul) (eC (.int 2)) (eN 3)) (eC (.int 1))) aNil))) (eOpN gTupD (aCons (eOp2 vAdd (eOp2 (vI gMul) (eC (.int 2)) (eN 2)) (eC (.int 1))) (aCons (eOp2 (vI gMul) (eC (.int 2)) (eN 3)) aNil))))))
def F_middle_of : List D → R D := runP 4 b_middle_of
theorem v_middle_of (T : Top K mg AD) : FnOk P w K mg base (L2.CX P w) 5 AD.f_middle_of AD.d_middle_of P_middle_of (spP (BT K AD) 2 F_middle_of) := by
  exact fnP T.D_middle_of.F sc_middle_of 2 rfl rfl (by decide) fun cdv A outer s H E hr =>
  (vss_cons (vs_asg (ve_meth 0 1 F_Column_place T.cl_Column T.m_Column_place (v_Column_place T) (hr.mono (by decide)) T.D_Column_place.b (takes_of rfl rfl rfl rfl) (show ¬ (("place" : Str) ∈ (["word", "size"] : List Str)) from by decide) (ve_n 0) (va_cons (ve_n 1) va_nil)) (vg_t (n := 2) rfl (by rfl) (vgs_cons (vg_n 2 sc_middle_of.nd) (vgs_cons (vg_n 3 sc_middle_of.nd) vgs_nil))))
  (vss_one (vs_ret (ve_if (vt_cmp (op_eqB rfl hr.units) Op2.eq (ve_ix (ix_A rfl) Op2.ix (ve_fld 0 0 rfl T.cl_Column T.n_Column_word (fun vs h => match vs, h with | [_, _], _ => rfl) (ve_n 0)) (ve_n 1) (fun _ _ => rfl)) (ve_s [100] (by decide +kernel)) (nomark _)) (ve_tup (va_cons (ve_op op_mul Op2.mul ve_int (ve_n 2)) (va_cons (ve_op op_sub Op2.sub (ve_op op_mul Op2.mul ve_int (ve_n 3)) ve_int) va_nil))) (ve_tup (va_cons (ve_op (op_addA rfl) Op2.add (ve_op op_mul Op2.mul ve_int (ve_n 2)) ve_int) (va_cons (ve_op op_mul Op2.mul ve_int (ve_n 3)) va_nil)))))))
def b_middles : Sf := (sRet (eOpN (g1 tupD) (aCons (eOf (lLc [3] (iIt (eCall 3 F_layer_steps (aCons (eN 0) (aCons (eN 1) (aCons (eN 2) aNil))))) (gtN 3) tTrue (eCall 2 F_middle_of (aCons (eOp2 vIx (eOp1 (fldD 1 0) (eN 0)) (eN 1)) (aCons (eN 3) aNil))))) aNil)))
def F_middles : List D → R D := runP 4 b_middles
theorem v_middles (T : Top K mg AD) : FnOk P w K mg base (L2.CX P w) 6 AD.f_middles AD.d_middles P_middles (spP (BT K AD) 3 F_middles) := by
  exact fnP T.D_middles.F sc_middles 3 rfl rfl (by decide) fun cdv A outer s H E hr =>
  (vss_one (vs_ret (ve_ty (call_tupA rfl) OpN.tup (by rfl) T.b_tuple (by decide +kernel) (va_cons (VF.ve (vf_lc (own := [("t", 3)]) (by rfl) sc_middles.nd (vi_any rfl (ve_call F_layer_steps (v_layer_steps T) (hr.mono (by decide)) rfl T.D_layer_steps.g T.D_layer_steps.F.kp T.D_layer_steps.b (takes_of rfl rfl rfl rfl) (va_cons (ve_n 0) (va_cons (ve_n 1) (va_cons (ve_n 2) va_nil))))) (blkOk_by (N := N_middles) (sc := defScope s_middles) (by decide +kernel)) rfl ⟨(gName 3), (fun _ _ _ _ _ => (pg_name (i := 3) sc_middles.nd rfl (by first | exact Or.inl rfl | exact Or.inr rfl))), gtN_ok⟩ (fun _ _ _ _ _ => vts_nil) (fun _ _ _ _ _ => (ve_call F_middle_of (v_middle_of T) (hr.mono (by decide)) rfl T.D_middle_of.g T.D_middle_of.F.kp T.D_middle_of.b takes0 (va_cons (ve_ix (ix_A rfl) Op2.ix (ve_fld 1 0 rfl T.cl_Card T.n_Card_columns (fun vs h => match vs, h with | [_, _, _, _, _], _ => rfl) (ve_n 0)) (ve_n 1) (fun _ _ => rfl)) (va_cons (ve_n 3) va_nil)))))) va_nil))))
def b_thickness : Sf := (sRet (eOpN (g1 lenV) (aCons (eCall 3 F_layer_steps (aCons (eN 0) (aCons (eN 1) (aCons (eN 2) aNil)))) aNil)))
def F_thickness : List D → R D := runP 3 b_thickness
theorem v_thickness (T : Top K mg AD) : FnOk P w K mg base (L2.CX P w) 6 AD.f_thickness AD.d_thickness P_thickness (spP (BT K AD) 3 F_thickness) := by
  exact fnP T.D_thickness.F sc_thickness 3 rfl rfl (by decide) fun cdv A outer s H E hr =>
  (vss_one (vs_ret (ve_b (call_lenA rfl) OpN.len (by rfl) T.b_len (by decide +kernel) (va_cons (ve_call F_layer_steps (v_layer_steps T) (hr.mono (by decide)) rfl T.D_layer_steps.g T.D_layer_steps.F.kp T.D_layer_steps.b (takes_of rfl rfl rfl rfl) (va_cons (ve_n 0) (va_cons (ve_n 1) (va_cons (ve_n 2) va_nil)))) va_nil))))
def b_touching : Sf := (sSeq (sAsg (eCall 3 F_layer_steps (aCons (eN 0) (aCons (eN 1) (aCons (eN 2) aNil)))) (gtN 3))
  (sSeq (sAsg (eOp2 vIx (eOp1 (fldD 1 3) (eN 0)) (eN 1)) (gtN 4))
  (sRet (eOpN (g1 tupD) (aCons (eOf (lLc [5, 6] (iPw (aCons (eN 3) aNil)) (gtT 2 (gtCons (gtN 5) (gtCons (gtN 6) gtNil))) tTrue (eOpN gTupD (aCons (eN 5) (aCons (eN 6) (aCons (eIf (tB2 (eOp2 vEq (eOp2 vIx (eN 4) (eN 5)) (eC (.str [100])))) (eC (.str [112, 114, 105, 110, 116])) (eC (.str [98, 108, 97, 110, 107]))) aNil)))))) aNil)))))
def F_touching : List D → R D := runP 7 b_touching
theorem v_touching (T : Top K mg AD) : FnOk P w K mg base (L2.CX P w) 6 AD.f_touching AD.d_touching P_touching (spP (BT K AD) 3 F_touching) := by
  exact fnP T.D_touching.F sc_touching 3 rfl rfl (by decide) fun cdv A outer s H E hr =>
  (vss_cons (vs_set 3 sc_touching.nd (ve_call F_layer_steps (v_layer_steps T) (hr.mono (by decide)) rfl T.D_layer_steps.g T.D_layer_steps.F.kp T.D_layer_steps.b (takes_of rfl rfl rfl rfl) (va_cons (ve_n 0) (va_cons (ve_n 1) (va_cons (ve_n 2) va_nil)))))
  (vss_cons (vs_set 4 sc_touching.nd (ve_ix (ix_A rfl) Op2.ix (ve_fld 1 3 rfl T.cl_Card T.n_Card_words (fun vs h => match vs, h with | [_, _, _, _, _], _ => rfl) (ve_n 0)) (ve_n 1) (fun _ _ => rfl)))
  (vss_one (vs_ret (ve_ty (call_tupA rfl) OpN.tup (by rfl) T.b_tuple (by decide +kernel) (va_cons (VF.ve (vf_lc (own := [("t", 5), ("other", 6)]) (by rfl) sc_touching.nd (vi_pw rfl (by rfl) T.im_pairwise (va_cons (ve_n 3) va_nil)) (blkOk_by (N := N_touching) (sc := defScope s_touching) (by decide +kernel)) rfl ⟨(gTup K 2 (gCons (gName 5) (gCons (gName 6) gNil))), (fun _ _ _ _ _ => (pg_tupK (K := K) (n := 2) (by rfl) (by rfl) (pgs_cons (pg_name (i := 5) sc_touching.nd rfl (by first | exact Or.inl rfl | exact Or.inr rfl)) (pgs_cons (pg_name (i := 6) sc_touching.nd rfl (by first | exact Or.inl rfl | exact Or.inr rfl)) pgs_nil)))), (gtT_ok (B := BT K AD) rfl (gtCons_ok gtN_ok (gtCons_ok gtN_ok gtNil_ok)))⟩ (fun _ _ _ _ _ => vts_nil) (fun _ _ _ _ _ => (ve_tup (va_cons (ve_n 5) (va_cons (ve_n 6) (va_cons (ve_if (vt_cmp (op_eqB rfl hr.units) Op2.eq (ve_ix (ix_A rfl) Op2.ix (ve_n 4) (ve_n 5) (fun _ _ => rfl)) (ve_s [100] (by decide +kernel)) (nomark _)) (ve_s [112, 114, 105, 110, 116] (by decide +kernel)) (ve_s [98, 108, 97, 110, 107] (by decide +kernel))) va_nil))))))) va_nil))))))
def b_l_word_1 : Sf := (sSeq (sAsg (eOp2 vGt (eN 3) (eC (.int 0))) (gtN 5))
  (sSeq (sAsg (eOp2 vLt (eM1 countD (eN 2) (eC (.str [100]))) (eN 1)) (gtN 6))
  (sIf (tAndD (tT (eN 6)) (tOrD (tNotD (tT (eN 5))) (tB2 (eOp2 vEq (eCallH 0 1 F_l_draw (aCons (eC (.int 2)) aNil)) (eC (.int 0)))))) (sSeq (sAsg (eOp2 vAdd (eN 2) (eC (.str [100]))) (gtN 2))
  (sAsg (eOp2 vAdd (eN 3) (eC (.int 1))) (gtN 3))) (sSeq (sAsg (eOp2 vAdd (eN 2) (eC (.str [111]))) (gtN 2))
  (sAsg (eOp2 vSub (eN 3) (eC (.int 1))) (gtN 3))))))
def b_l_word : Sf := (sSeq (sAsg (eC (.str [])) (gtN 2))
  (sSeq (sAsg (eC (.int 0)) (gtN 3))
  (sSeq (sFor (iRange rg1 (aCons (eOp2 (vI gMul) (eC (.int 2)) (eN 1)) aNil)) (gtN 4)
  b_l_word_1)
  (sRet (eN 2)))))
def F_l_word : List D → S → R D := runH 7 b_l_word
theorem v_l_word (T : Top K mg AD) : FnOk P w K mg base (L2.CX P w) 3 AD.f_l_word AD.d_l_word P_l_word (spH (BT K AD) 1 F_l_word) := by
  exact fnH T.D_l_word.F sc_l_word 1 rfl rfl (by decide) fun cdv A outer s H E hr =>
  (vss_cons (vs_set 2 sc_l_word.nd (ve_s [] (by decide +kernel)))
  (vss_cons (vs_set 3 sc_l_word.nd ve_int)
  (vss_cons (vs_for (passes_of rfl) (by rfl) (vi_range1 (by rfl) T.b_range (va_cons (ve_op op_mul Op2.mul ve_int (ve_n 1)) va_nil)) (vg_n 4 sc_l_word.nd)
  (vss_cons (vs_set 5 sc_l_word.nd (ve_cmp op_gt Op2.cmp (ve_n 3) ve_int (nomark _)))
  (vss_cons (vs_set 6 sc_l_word.nd (ve_cmp op_lt Op2.cmp (ve_m1 PySem.F.slot_str_count PySem.F.type_str_count mt_countS count_ok (ve_n 2) (ve_s [100] (by decide +kernel))) (ve_n 1) (nomark _)))
  (vss_one (vs_if (VW.vt (vw_and (vt_val rfl (ve_n 6) (by intro _; rfl)) (vw_and1 (VW.vt (vw_or (vt_not (vt_val rfl (ve_n 5) (by intro _; rfl))) (vw_or1 (vt_cmp (op_eqB rfl hr.units) Op2.eq (ve_callH 0 F_l_draw (v_l_draw T) (hr.mono (by decide)) rfl T.D_l_draw.g T.D_l_draw.F.kp T.D_l_draw.b (takes_of rfl rfl rfl rfl) (pv 0) (va_cons ve_int va_nil)) ve_int (nomark _))))))))
  (vss_cons (vs_set 2 sc_l_word.nd (ve_op (op_addA rfl) Op2.add (ve_n 2) (ve_s [100] (by decide +kernel))))
  (vss_one (vs_set 3 sc_l_word.nd (ve_op (op_addA rfl) Op2.add (ve_n 3) ve_int))))
  (vss_cons (vs_set 2 sc_l_word.nd (ve_op (op_addA rfl) Op2.add (ve_n 2) (ve_s [111] (by decide +kernel))))
  (vss_one (vs_set 3 sc_l_word.nd (ve_op op_sub Op2.sub (ve_n 3) ve_int)))))))))
  (vss_one (vs_ret (ve_n 2))))))
def b_l_near_1 : Sf := (sSeq (sAsg (eOp2 vAdd (eN 4) (eIf (tB2 (eOp2 vEq (eN 5) (eC (.str [100])))) (eC (.int 1)) (eOp1 negD (eC (.int 1))))) (gtN 4))
  (sIf (tB2 (eOp2 vLt (eN 4) (eC (.int 0)))) (sRet (eN 1)) sNil))
def b_l_near : Sf := (sSeq (sAsg (eOp2 vAdd (eC (.int 1)) (eCallH 0 1 F_l_draw (aCons (eOp2 vSub (eOpN (g1 lenV) (aCons (eN 1) aNil)) (eC (.int 1))) aNil))) (gtN 2))
  (sSeq (sIf (tB2 (eOp2 vEq (eOp2 vIx (eN 1) (eOp2 vSub (eN 2) (eC (.int 1)))) (eOp2 vIx (eN 1) (eN 2)))) (sRet (eN 1)) sNil)
  (sSeq (sAsg (eOp2 vAdd (eOp2 vAdd (eOp2 vAdd (eSl (eN 1) oNone (oSome (eOp2 vSub (eN 2) (eC (.int 1))))) (eOp2 vIx (eN 1) (eN 2))) (eOp2 vIx (eN 1) (eOp2 vSub (eN 2) (eC (.int 1))))) (eSl (eN 1) (oSome (eOp2 vAdd (eN 2) (eC (.int 1)))) oNone)) (gtN 3))
  (sSeq (sAsg (eC (.int 0)) (gtN 4))
  (sSeq (sFor (iIt (eN 3)) (gtN 5)
  b_l_near_1)
  (sRet (eN 3)))))))
def F_l_near : List D → S → R D := runH 6 b_l_near
theorem v_l_near (T : Top K mg AD) : FnOk P w K mg base (L2.CX P w) 3 AD.f_l_near AD.d_l_near P_l_near (spH (BT K AD) 1 F_l_near) := by
  exact fnH T.D_l_near.F sc_l_near 1 rfl rfl (by decide) fun cdv A outer s H E hr =>
  (vss_cons (vs_set 2 sc_l_near.nd (ve_op (op_addA rfl) Op2.add ve_int (ve_callH 0 F_l_draw (v_l_draw T) (hr.mono (by decide)) rfl T.D_l_draw.g T.D_l_draw.F.kp T.D_l_draw.b (takes_of rfl rfl rfl rfl) (pv 0) (va_cons (ve_op op_sub Op2.sub (ve_b (call_lenA rfl) OpN.len (by rfl) T.b_len (by decide +kernel) (va_cons (ve_n 1) va_nil)) ve_int) va_nil))))
  (vss_cons (vs_if (vt_cmp (op_eqB rfl hr.units) Op2.eq (ve_ix (ix_A rfl) Op2.ix (ve_n 1) (ve_op op_sub Op2.sub (ve_n 2) ve_int) (fun _ _ => rfl)) (ve_ix (ix_A rfl) Op2.ix (ve_n 1) (ve_n 2) (fun _ _ => rfl)) (nomark _))
  (vss_one (vs_ret (ve_n 1)))
  vss_nil)
  (vss_cons (vs_set 3 sc_l_near.nd (ve_op (op_addA rfl) Op2.add (ve_op (op_addA rfl) Op2.add (ve_op (op_addA rfl) Op2.add (ve_sl rfl (ve_n 1) vo_none (vo_some (ve_op op_sub Op2.sub (ve_n 2) ve_int))) (ve_ix (ix_A rfl) Op2.ix (ve_n 1) (ve_n 2) (fun _ _ => rfl))) (ve_ix (ix_A rfl) Op2.ix (ve_n 1) (ve_op op_sub Op2.sub (ve_n 2) ve_int) (fun _ _ => rfl))) (ve_sl rfl (ve_n 1) (vo_some (ve_op (op_addA rfl) Op2.add (ve_n 2) ve_int)) vo_none)))
  (vss_cons (vs_set 4 sc_l_near.nd ve_int)
  (vss_cons (vs_for (passes_of rfl) (by rfl) (vi_any rfl (ve_n 3)) (vg_n 5 sc_l_near.nd)
  (vss_cons (vs_set 4 sc_l_near.nd (ve_op (op_addA rfl) Op2.add (ve_n 4) (ve_if (vt_cmp (op_eqB rfl hr.units) Op2.eq (ve_n 5) (ve_s [100] (by decide +kernel)) (nomark _)) ve_int (ve_un un_neg Op1.neg ve_int))))
  (vss_one (vs_if (vt_cmp op_lt Op2.cmp (ve_n 4) ve_int (nomark _))
  (vss_one (vs_ret (ve_n 1)))
  vss_nil))))
  (vss_one (vs_ret (ve_n 3))))))))
def b_l_words_1 : Sf := (sSeq (sAsg (eCallH 0 1 F_l_draw (aCons (eC (.int 4)) aNil)) (gtN 5))
  (sIf (tB2 (eOp2 vEq (eN 5) (eC (.int 0)))) (sApp 3 (eCallH 0 1 F_l_word (aCons (eN 1) aNil))) (sIf (tB2 (eOp2 vEq (eN 5) (eC (.int 1)))) (sApp 3 (eU (eOp2 vIx (eN 3) (eOp2 vSub (eN 4) (eC (.int 1)))))) (sApp 3 (eU (eCallH 0 1 F_l_near (aCons (eOp2 vIx (eN 3) (eOp2 vSub (eN 4) (eC (.int 1)))) aNil)))))))
def b_l_words : Sf := (sSeq (sOwn 3 (fun ρ s => ((aCons (eCallH 0 1 F_l_word (aCons (eN 1) aNil)) aNil) ρ s).bind fun ds s1 => opt (fitL ds) s1))
  (sSeq (sFor (iRange rg2 (aCons (eC (.int 1)) (aCons (eN 2) aNil))) (gtN 4)
  b_l_words_1)
  (sFrz 3 (sRet (eN 3)))))
def F_l_words : List D → S → R D := runH 6 b_l_words
theorem v_l_words (T : Top K mg AD) : FnOk P w K mg base (L2.CX P w) 4 AD.f_l_words AD.d_l_words P_l_words (spH (BT K AD) 2 F_l_words) := by
  exact fnH T.D_l_words.F sc_l_words 2 rfl rfl (by decide) fun cdv A outer s H E hr =>
  (vss_cons (vs_own 3 sc_l_words.nd (vf_lst (va_cons (ve_callH 0 F_l_word (v_l_word T) (hr.mono (by decide)) rfl T.D_l_word.g T.D_l_word.F.kp T.D_l_word.b (takes_of rfl rfl rfl rfl) (pv 0) (va_cons (ve_n 1) va_nil)) va_nil)))
  (vss_cons (vs_for (passes_of rfl) (by rfl) (vi_range2 (by rfl) T.b_range (va_cons ve_int (va_cons (ve_n 2) va_nil))) (vg_n 4 sc_l_words.nd)
  (vss_cons (vs_set 5 sc_l_words.nd (ve_callH 0 F_l_draw (v_l_draw T) (hr.mono (by decide)) rfl T.D_l_draw.g T.D_l_draw.F.kp T.D_l_draw.b (takes_of rfl rfl rfl rfl) (pv 0) (va_cons ve_int va_nil)))
  (vss_one (vs_if (vt_cmp (op_eqB rfl hr.units) Op2.eq (ve_n 5) ve_int (nomark _))
  (vss_one (vs_app 3 (ve_callH 0 F_l_word (v_l_word T) (hr.mono (by decide)) rfl T.D_l_word.g T.D_l_word.F.kp T.D_l_word.b (takes_of rfl rfl rfl rfl) (pv 0) (va_cons (ve_n 1) va_nil)) rfl (fun h => pe_bm PySem.F.plainAttrs_list PySem.F.slot_list_append PySem.F.type_list_append mt_append (pv 3) h)))
  (vss_one (vs_if (vt_cmp (op_eqB rfl hr.units) Op2.eq (ve_n 5) ve_int (nomark _))
  (vss_one (vs_app 3 (ve_u (ve_ix (ix_A rfl) Op2.ix (ve_n 3) (ve_op op_sub Op2.sub (ve_n 4) ve_int) (fun _ _ => rfl))) rfl (fun h => pe_bm PySem.F.plainAttrs_list PySem.F.slot_list_append PySem.F.type_list_append mt_append (pv 3) h)))
  (vss_one (vs_app 3 (ve_u (ve_callH 0 F_l_near (v_l_near T) (hr.mono (by decide)) rfl T.D_l_near.g T.D_l_near.F.kp T.D_l_near.b (takes_of rfl rfl rfl rfl) (pv 0) (va_cons (ve_ix (ix_A rfl) Op2.ix (ve_n 3) (ve_op op_sub Op2.sub (ve_n 4) ve_int) (fun _ _ => rfl)) va_nil))) rfl (fun h => pe_bm PySem.F.plainAttrs_list PySem.F.slot_list_append PySem.F.type_list_append mt_append (pv 3) h)))))))))
  (vss_one (vs_frz 3 (vs_ret (ve_n 3))))))
def b_l_heights_1 : Sf := (sApp 1 (eU (eOp2 vAdd (eOp2 vIx (eN 1) (eOp1 negD (eC (.int 1)))) (eIf (tB2 (eOp2 vEq (eN 2) (eC (.str [100])))) (eC (.int 1)) (eOp1 negD (eC (.int 1)))))))
def b_l_heights : Sf := (sSeq (sOwn 1 (fun ρ s => ((aCons (eC (.int 0)) aNil) ρ s).bind fun ds s1 => opt (fitL ds) s1))
  (sSeq (sFor (iIt (eN 0)) (gtN 2)
  b_l_heights_1)
  (sFrz 1 (sRet (eN 1)))))
def F_l_heights : List D → R D := runP 3 b_l_heights
theorem v_l_heights (T : Top K mg AD) : FnOk P w K mg base (L2.CX P w) 1 AD.f_l_heights AD.d_l_heights P_l_heights (spP (BT K AD) 1 F_l_heights) := by
  exact fnP T.D_l_heights.F sc_l_heights 1 rfl rfl (by decide) fun cdv A outer s H E hr =>
  (vss_cons (vs_own 1 sc_l_heights.nd (vf_lst (va_cons ve_int va_nil)))
  (vss_cons (vs_for (passes_of rfl) (by rfl) (vi_any rfl (ve_n 0)) (vg_n 2 sc_l_heights.nd)
  (vss_one (vs_app 1 (ve_u (ve_op (op_addA rfl) Op2.add (ve_ix (ix_A rfl) Op2.ix (ve_n 1) (ve_un un_neg Op1.neg ve_int) (fun _ _ => rfl)) (ve_if (vt_cmp (op_eqB rfl hr.units) Op2.eq (ve_n 2) (ve_s [100] (by decide +kernel)) (nomark _)) ve_int (ve_un un_neg Op1.neg ve_int)))) rfl (fun h => pe_bm PySem.F.plainAttrs_list PySem.F.slot_list_append PySem.F.type_list_append mt_append (pv 1) h))))
  (vss_one (vs_frz 1 (vs_ret (ve_n 1))))))
def b_l_common : Sf := (sSeq (sAsg (eOpN gTupD (aCons (eCall 1 F_l_heights (aCons (eN 0) aNil)) (aCons (eCall 1 F_l_heights (aCons (eN 1) aNil)) aNil))) (gtT 2 (gtCons (gtN 2) (gtCons (gtN 3) gtNil))))
  (sRet (eOf (lLc [4] (iRange rg1 (aCons (eOpN (g1 lenV) (aCons (eN 0) aNil)) aNil)) (gtN 4) (tAndD (tB2 (eOp2 vEq (eOp2 vIx (eN 0) (eN 4)) (eOp2 vIx (eN 1) (eN 4)))) (tB2 (eOp2 vEq (eOp2 vIx (eN 2) (eN 4)) (eOp2 vIx (eN 3) (eN 4))))) (eN 4)))))
def F_l_common : List D → R D := runP 5 b_l_common
theorem v_l_common (T : Top K mg AD) : FnOk P w K mg base (L2.CX P w) 2 AD.f_l_common AD.d_l_common P_l_common (spP (BT K AD) 2 F_l_common) := by
  exact fnP T.D_l_common.F sc_l_common 2 rfl rfl (by decide) fun cdv A outer s H E hr =>
  (vss_cons (vs_asg (ve_tup (va_cons (ve_call F_l_heights (v_l_heights T) (hr.mono (by decide)) rfl T.D_l_heights.g T.D_l_heights.F.kp T.D_l_heights.b (takes_of rfl rfl rfl rfl) (va_cons (ve_n 0) va_nil)) (va_cons (ve_call F_l_heights (v_l_heights T) (hr.mono (by decide)) rfl T.D_l_heights.g T.D_l_heights.F.kp T.D_l_heights.b (takes_of rfl rfl rfl rfl) (va_cons (ve_n 1) va_nil)) va_nil))) (vg_t (n := 2) rfl (by rfl) (vgs_cons (vg_n 2 sc_l_common.nd) (vgs_cons (vg_n 3 sc_l_common.nd) vgs_nil))))
  (vss_one (vs_ret (VF.ve (vf_lc (own := [("_law_t", 4)]) (by rfl) sc_l_common.nd (vi_range1 (by rfl) T.b_range (va_cons (ve_b (call_lenA rfl) OpN.len (by rfl) T.b_len (by decide +kernel) (va_cons (ve_n 0) va_nil)) va_nil)) (blkOk_by (N := N_l_common) (sc := defScope s_l_common) (by decide +kernel)) rfl ⟨(gName 4), (fun _ _ _ _ _ => (pg_name (i := 4) sc_l_common.nd rfl (by first | exact Or.inl rfl | exact Or.inr rfl))), gtN_ok⟩ (fun _ _ _ _ _ => (vts_one (VW.vt (vw_and (vt_cmp (op_eqB rfl hr.units) Op2.eq (ve_ix (ix_A rfl) Op2.ix (ve_n 0) (ve_n 4) (fun _ _ => rfl)) (ve_ix (ix_A rfl) Op2.ix (ve_n 1) (ve_n 4) (fun _ _ => rfl)) (nomark _)) (vw_and1 (vt_cmp (op_eqB rfl hr.units) Op2.eq (ve_ix (ix_A rfl) Op2.ix (ve_n 2) (ve_n 4) (fun _ _ => rfl)) (ve_ix (ix_A rfl) Op2.ix (ve_n 3) (ve_n 4) (fun _ _ => rfl)) (nomark _))))))) (fun _ _ _ _ _ => (ve_n 4)))))))
def b_l_pick : Sf := (sRet (eOp2 vIx (eN 1) (eCallH 0 1 F_l_draw (aCons (eOpN (g1 lenV) (aCons (eN 1) aNil)) aNil))))
def F_l_pick : List D → S → R D := runH 2 b_l_pick
theorem v_l_pick (T : Top K mg AD) : FnOk P w K mg base (L2.CX P w) 3 AD.f_l_pick AD.d_l_pick P_l_pick (spH (BT K AD) 1 F_l_pick) := by
  exact fnH T.D_l_pick.F sc_l_pick 1 rfl rfl (by decide) fun cdv A outer s H E hr =>
  (vss_one (vs_ret (ve_ix (ix_A rfl) Op2.ix (ve_n 1) (ve_callH 0 F_l_draw (v_l_draw T) (hr.mono (by decide)) rfl T.D_l_draw.g T.D_l_draw.F.kp T.D_l_draw.b (takes_of rfl rfl rfl rfl) (pv 0) (va_cons (ve_b (call_lenA rfl) OpN.len (by rfl) T.b_len (by decide +kernel) (va_cons (ve_n 1) va_nil)) va_nil)) (fun _ _ => rfl))))
def b_l_sizes : Sf := (sSeq (sAsg (eCallH 0 1 F_l_pick (aCons (eOpN gLstD (aCons (eC (.int 3)) (aCons (eC (.int 2)) (aCons (eC (.int 4)) (aCons (eC (.int 3)) (aCons (eC (.int 2)) (aCons (eC (.int 4)) (aCons (eC (.int 3)) (aCons (eC (.int 1)) (aCons (eC (.int 5)) (aCons (eC (.int 6)) aNil))))))))))) aNil)) (gtN 1))
  (sRet (eOpN gTupD (aCons (eN 1) (aCons (eCallH 0 1 F_l_pick (aCons (eOpN gLstD (aCons (eC (.int 2)) (aCons (eC (.int 3)) (aCons (eC (.int 4)) (aCons (eC (.int 3)) (aCons (eC (.int 2)) (aCons (eC (.int 5)) (aCons (eC (.int 1)) (aCons (eC (.int 4)) (aCons (eC (.int 7)) (aCons (eC (.int 12)) aNil))))))))))) aNil)) aNil)))))
def F_l_sizes : List D → S → R D := runH 2 b_l_sizes
theorem v_l_sizes (T : Top K mg AD) : FnOk P w K mg base (L2.CX P w) 4 AD.f_l_sizes AD.d_l_sizes P_l_sizes (spH (BT K AD) 0 F_l_sizes) := by
  exact fnH T.D_l_sizes.F sc_l_sizes 0 rfl rfl (by decide) fun cdv A outer s H E hr =>
  (vss_cons (vs_set 1 sc_l_sizes.nd (ve_callH 0 F_l_pick (v_l_pick T) (hr.mono (by decide)) rfl T.D_l_pick.g T.D_l_pick.F.kp T.D_l_pick.b (takes_of rfl rfl rfl rfl) (pv 0) (va_cons (ve_lst (va_cons ve_int (va_cons ve_int (va_cons ve_int (va_cons ve_int (va_cons ve_int (va_cons ve_int (va_cons ve_int (va_cons ve_int (va_cons ve_int (va_cons ve_int va_nil))))))))))) va_nil)))
  (vss_one (vs_ret (ve_tup (va_cons (ve_n 1) (va_cons (ve_callH 0 F_l_pick (v_l_pick T) (hr.mono (by decide)) rfl T.D_l_pick.g T.D_l_pick.F.kp T.D_l_pick.b (takes_of rfl rfl rfl rfl) (pv 0) (va_cons (ve_lst (va_cons ve_int (va_cons ve_int (va_cons ve_int (va_cons ve_int (va_cons ve_int (va_cons ve_int (va_cons ve_int (va_cons ve_int (va_cons ve_int (va_cons ve_int va_nil))))))))))) va_nil)) va_nil))))))
def b_l_slits_1 : Sf := (sSeq (sAsg (eCallH 0 1 F_l_draw (aCons (eOp2 vSub (eN 4) (eC (.int 1))) aNil)) (gtN 6))
  (sSeq (sAsg (eOp2 vAdd (eC (.int 1)) (eCallH 0 1 F_l_draw (aCons (eOp2 vSub (eOp2 (vI gMul) (eC (.int 2)) (eN 3)) (eC (.int 2))) aNil))) (gtN 7))
  (sSeq (sAsg (eSl (eCall 2 F_l_common (aCons (eOp2 vIx (eN 1) (eN 6)) (aCons (eOp2 vIx (eN 1) (eOp2 vAdd (eN 6) (eC (.int 1)))) aNil))) (oSome (eC (.int 1))) (oSome (eOp1 negD (eC (.int 1))))) (gtN 8))
  (sSeq (sIf (tAndD (tB2 (eOp2 vNe (eN 8) (eOpN gLstD aNil))) (tB2 (eOp2 vEq (eCallH 0 1 F_l_draw (aCons (eC (.int 2)) aNil)) (eC (.int 0))))) (sAsg (eCallH 0 1 F_l_pick (aCons (eN 8) aNil)) (gtN 7)) sNil)
  (sIf (tU (tB2 (eOp2 (vIn true) (eOpN gTupD (aCons (eN 6) (aCons (eN 7) aNil))) (eN 2)))) (sApp 2 (eOpN gTupD (aCons (eN 6) (aCons (eN 7) aNil)))) sNil)))))
def b_l_slits : Sf := (sSeq (sPar3M 2 3 4 (mOwn (fun ρ s => (aNil ρ s).bind fun ds s1 => opt (fitL ds) s1) (mVal (eOp2 (vI gFdiv) (eOpN (g1 lenV) (aCons (eOp2 vIx (eN 1) (eC (.int 0))) aNil)) (eC (.int 2))) (mVal (eOpN (g1 lenV) (aCons (eN 1) aNil)) mNil))))
  (sSeq (sIf (tOrD (tB2 (eOp2 vLt (eN 3) (eC (.int 2)))) (tB2 (eOp2 vLt (eN 4) (eC (.int 2))))) (sFrz 2 (sRet (eN 2))) sNil)
  (sSeq (sFor (iRange rg1 (aCons (eCallH 0 1 F_l_pick (aCons (eOpN gLstD (aCons (eC (.int 0)) (aCons (eC (.int 1)) (aCons (eC (.int 2)) (aCons (eC (.int 3)) (aCons (eC (.int 5)) (aCons (eC (.int 9)) (aCons (eC (.int 20)) aNil)))))))) aNil)) aNil)) (gtN 5)
  b_l_slits_1)
  (sFrz 2 (sRet (eN 2))))))
def F_l_slits : List D → S → R D := runH 9 b_l_slits
theorem v_l_slits (T : Top K mg AD) : FnOk P w K mg base (L2.CX P w) 4 AD.f_l_slits AD.d_l_slits P_l_slits (spH (BT K AD) 1 F_l_slits) := by
  exact fnH T.D_l_slits.F sc_l_slits 1 rfl rfl (by decide) fun cdv A outer s H E hr =>
  (vss_cons (vs_par3M 2 3 4 (by rfl) sc_l_slits.nd rfl rfl rfl (by decide) (by decide) (by decide) rfl rfl rfl (vm_own (vf_lst va_nil) (vm_val (ve_op op_fdivW Op2.fdiv (ve_b (call_lenA rfl) OpN.len (by rfl) T.b_len (by decide +kernel) (va_cons (ve_ix (ix_A rfl) Op2.ix (ve_n 1) ve_int (fun _ _ => rfl)) va_nil)) ve_int) (vm_val (ve_b (call_lenA rfl) OpN.len (by rfl) T.b_len (by decide +kernel) (va_cons (ve_n 1) va_nil)) vm_nil))) (by rfl))
  (vss_cons (vs_if (VW.vt (vw_or (vt_cmp op_lt Op2.cmp (ve_n 3) ve_int (nomark _)) (vw_or1 (vt_cmp op_lt Op2.cmp (ve_n 4) ve_int (nomark _)))))
  (vss_one (vs_frz 2 (vs_ret (ve_n 2))))
  vss_nil)
  (vss_cons (vs_for (passes_of rfl) (by rfl) (vi_range1 (by rfl) T.b_range (va_cons (ve_callH 0 F_l_pick (v_l_pick T) (hr.mono (by decide)) rfl T.D_l_pick.g T.D_l_pick.F.kp T.D_l_pick.b (takes_of rfl rfl rfl rfl) (pv 0) (va_cons (ve_lst (va_cons ve_int (va_cons ve_int (va_cons ve_int (va_cons ve_int (va_cons ve_int (va_cons ve_int (va_cons ve_int va_nil)))))))) va_nil)) va_nil)) (vg_n 5 sc_l_slits.nd)
  (vss_cons (vs_set 6 sc_l_slits.nd (ve_callH 0 F_l_draw (v_l_draw T) (hr.mono (by decide)) rfl T.D_l_draw.g T.D_l_draw.F.kp T.D_l_draw.b (takes_of rfl rfl rfl rfl) (pv 0) (va_cons (ve_op op_sub Op2.sub (ve_n 4) ve_int) va_nil)))
  (vss_cons (vs_set 7 sc_l_slits.nd (ve_op (op_addA rfl) Op2.add ve_int (ve_callH 0 F_l_draw (v_l_draw T) (hr.mono (by decide)) rfl T.D_l_draw.g T.D_l_draw.F.kp T.D_l_draw.b (takes_of rfl rfl rfl rfl) (pv 0) (va_cons (ve_op op_sub Op2.sub (ve_op op_mul Op2.mul ve_int (ve_n 3)) ve_int) va_nil))))
  (vss_cons (vs_set 8 sc_l_slits.nd (ve_sl rfl (ve_call F_l_common (v_l_common T) (hr.mono (by decide)) rfl T.D_l_common.g T.D_l_common.F.kp T.D_l_common.b (takes_of rfl rfl rfl rfl) (va_cons (ve_ix (ix_A rfl) Op2.ix (ve_n 1) (ve_n 6) (fun _ _ => rfl)) (va_cons (ve_ix (ix_A rfl) Op2.ix (ve_n 1) (ve_op (op_addA rfl) Op2.add (ve_n 6) ve_int) (fun _ _ => rfl)) va_nil))) (vo_some ve_int) (vo_some (ve_un un_neg Op1.neg ve_int))))
  (vss_cons (vs_if (VW.vt (vw_and (vt_cmp (op_neB rfl hr.units) Op2.ne (ve_n 8) (ve_lst va_nil) (nomark _)) (vw_and1 (vt_cmp (op_eqB rfl hr.units) Op2.eq (ve_callH 0 F_l_draw (v_l_draw T) (hr.mono (by decide)) rfl T.D_l_draw.g T.D_l_draw.F.kp T.D_l_draw.b (takes_of rfl rfl rfl rfl) (pv 0) (va_cons ve_int va_nil)) ve_int (nomark _)))))
  (vss_one (vs_set 7 sc_l_slits.nd (ve_callH 0 F_l_pick (v_l_pick T) (hr.mono (by decide)) rfl T.D_l_pick.g T.D_l_pick.F.kp T.D_l_pick.b (takes_of rfl rfl rfl rfl) (pv 0) (va_cons (ve_n 8) va_nil))))
  vss_nil)
  (vss_one (vs_if (vt_u (vt_cmp (op_notInA rfl (Sl.Room.units65 hr)) Op2.inA (ve_tup (va_cons (ve_n 6) (va_cons (ve_n 7) va_nil))) (ve_n 2) (by rfl)))
  (vss_one (vs_app 2 (ve_tup (va_cons (ve_n 6) (va_cons (ve_n 7) va_nil))) rfl (fun h => pe_bm PySem.F.plainAttrs_list PySem.F.slot_list_append PySem.F.type_list_append mt_append (pv 2) h)))
  vss_nil)))))))
  (vss_one (vs_frz 2 (vs_ret (ve_n 2)))))))
def b_l_card : Sf := (sRet (eCall 2 F_Card___init__ (aCons (eOf (lLc [2] (iIt (eN 0)) (gtN 2) tTrue (eCall 1 F_Column___init__ (aCons (eN 2) aNil)))) (aCons (eN 1) aNil))))
def F_l_card : List D → R D := runP 3 b_l_card
theorem v_l_card (T : Top K mg AD) : FnOk P w K mg base (L2.CX P w) 7 AD.f_l_card AD.d_l_card P_l_card (spP (BT K AD) 2 F_l_card) := by
  exact fnP T.D_l_card.F sc_l_card 2 rfl rfl (by decide) fun cdv A outer s H E hr =>
  (vss_one (vs_ret (ve_make 1 F_Card___init__ T.mk_Card (v_Card___init__ T) (hr.mono (by decide)) rfl T.g_Card T.D_Card___init__.b (takes_of rfl rfl rfl rfl) runI_obj (va_cons (VF.ve (vf_lc (own := [("_law_word_here", 2)]) (by rfl) sc_l_card.nd (vi_any rfl (ve_n 0)) (blkOk_by (N := N_l_card) (sc := defScope s_l_card) (by decide +kernel)) rfl ⟨(gName 2), (fun _ _ _ _ _ => (pg_name (i := 2) sc_l_card.nd rfl (by first | exact Or.inl rfl | exact Or.inr rfl))), gtN_ok⟩ (fun _ _ _ _ _ => vts_nil) (fun _ _ _ _ _ => (ve_make 0 F_Column___init__ T.mk_Column (v_Column___init__ T) (hr.mono (by decide)) rfl T.g_Column T.D_Column___init__.b takes0 runI_obj (va_cons (ve_n 2) va_nil))))) (va_cons (ve_n 1) va_nil)))))
def b_l_number : Sf := (sRet (eAnd (eOpN (isiD CS) (aCons (eN 0) (aCons (eC (.ty "int")) aNil))) (eAnd (eOp1 notD (eOpN (isiD CS) (aCons (eN 0) (aCons (eC (.ty "bool")) aNil)))) (eOp2 vEq (eN 0) (eN 1)))))
def F_l_number : List D → R D := runP 2 b_l_number
theorem v_l_number (T : Top K mg AD) : FnOk P w K mg base (L2.CX P w) 1 AD.f_l_number AD.d_l_number P_l_number (spP (BT K AD) 2 F_l_number) := by
  exact fnP T.D_l_number.F sc_l_number 2 rfl rfl (by decide) fun cdv A outer s H E hr =>
  (vss_one (vs_ret (ve_and (ve_b (call_isiA rfl) (OpN.isi (kit T)) (by rfl) T.b_isinstance (by decide +kernel) (va_cons (ve_n 0) (va_cons (ve_tyv (by rfl) T.b_int (by decide +kernel)) va_nil))) (ve_and (ve_not (ve_b (call_isiA rfl) (OpN.isi (kit T)) (by rfl) T.b_isinstance (by decide +kernel) (va_cons (ve_n 0) (va_cons (ve_tyv (by rfl) T.b_bool (by decide +kernel)) va_nil)))) (ve_one (ve_cmp (op_eqB rfl hr.units) Op2.eq (ve_n 0) (ve_n 1) (nomark _)))))))
def b_l_rows_1 : Sf := (sIf (tOrD (tNotD (tT (eOpN (isiD CS) (aCons (eN 2) (aCons (eC (.ty "tuple")) aNil))))) (tB2 (eOp2 vNe (eOf (lLst (aCons (eN 2) aNil))) (eOf (lLst (aCons (eN 3) aNil)))))) (sRet (eC (.bl false))) sNil)
def b_l_rows : Sf := (sSeq (sIf (tOrD (tNotD (tT (eOpN (isiD CS) (aCons (eN 0) (aCons (eC (.ty "tuple")) aNil))))) (tB2 (eOp2 vNe (eOpN (g1 lenV) (aCons (eN 0) aNil)) (eOpN (g1 lenV) (aCons (eN 1) aNil))))) (sRet (eC (.bl false))) sNil)
  (sSeq (sFor (iZp (aCons (eN 0) (aCons (eN 1) aNil))) (gtT 2 (gtCons (gtN 2) (gtCons (gtN 3) gtNil)))
  b_l_rows_1)
  (sRet (eC (.bl true)))))
def F_l_rows : List D → R D := runP 4 b_l_rows
theorem v_l_rows (T : Top K mg AD) : FnOk P w K mg base (L2.CX P w) 1 AD.f_l_rows AD.d_l_rows P_l_rows (spP (BT K AD) 2 F_l_rows) := by
  exact fnP T.D_l_rows.F sc_l_rows 2 rfl rfl (by decide) fun cdv A outer s H E hr =>
  (vss_cons (vs_if (VW.vt (vw_or (vt_not (vt_val rfl (ve_b (call_isiA rfl) (OpN.isi (kit T)) (by rfl) T.b_isinstance (by decide +kernel) (va_cons (ve_n 0) (va_cons (ve_tyv (by rfl) T.b_tuple (by decide +kernel)) va_nil))) (by intro _; rfl))) (vw_or1 (vt_cmp (op_neB rfl hr.units) Op2.ne (ve_b (call_lenA rfl) OpN.len (by rfl) T.b_len (by decide +kernel) (va_cons (ve_n 0) va_nil)) (ve_b (call_lenA rfl) OpN.len (by rfl) T.b_len (by decide +kernel) (va_cons (ve_n 1) va_nil)) (nomark _)))))
  (vss_one (vs_ret ve_bl))
  vss_nil)
  (vss_cons (vs_for (passes_of rfl) (by rfl) (vi_zip rfl (by rfl) T.b_zip (va_cons (ve_n 0) (va_cons (ve_n 1) va_nil))) (vg_t (n := 2) rfl (by rfl) (vgs_cons (vg_n 2 sc_l_rows.nd) (vgs_cons (vg_n 3 sc_l_rows.nd) vgs_nil)))
  (vss_one (vs_if (VW.vt (vw_or (vt_not (vt_val rfl (ve_b (call_isiA rfl) (OpN.isi (kit T)) (by rfl) T.b_isinstance (by decide +kernel) (va_cons (ve_n 2) (va_cons (ve_tyv (by rfl) T.b_tuple (by decide +kernel)) va_nil))) (by intro _; rfl))) (vw_or1 (vt_cmp (op_neB rfl hr.units) Op2.ne (VF.ve (vf_list rfl (by rfl) T.b_list (by decide +kernel) (va_cons (ve_n 2) va_nil))) (VF.ve (vf_list rfl (by rfl) T.b_list (by decide +kernel) (va_cons (ve_n 3) va_nil))) (nomark _)))))
  (vss_one (vs_ret ve_bl))
  vss_nil)))
  (vss_one (vs_ret ve_bl))))
def b_l_place : Sf := (sRet (eOpN gTupD (aCons (eM1 countD (eSl (eN 0) oNone (oSome (eN 1))) (eC (.str [111]))) (aCons (eOp2 vSub (eOp2 (vI gFdiv) (eOpN (g1 lenV) (aCons (eN 0) aNil)) (eC (.int 2))) (eM1 countD (eSl (eN 0) oNone (oSome (eN 1))) (eC (.str [100])))) aNil))))
def F_l_place : List D → R D := runP 2 b_l_place
theorem v_l_place (T : Top K mg AD) : FnOk P w K mg base (L2.CX P w) 1 AD.f_l_place AD.d_l_place P_l_place (spP (BT K AD) 2 F_l_place) := by
  exact fnP T.D_l_place.F sc_l_place 2 rfl rfl (by decide) fun cdv A outer s H E hr =>
  (vss_one (vs_ret (ve_tup (va_cons (ve_m1 PySem.F.slot_str_count PySem.F.type_str_count mt_countS count_ok (ve_sl rfl (ve_n 0) vo_none (vo_some (ve_n 1))) (ve_s [111] (by decide +kernel))) (va_cons (ve_op op_sub Op2.sub (ve_op op_fdivW Op2.fdiv (ve_b (call_lenA rfl) OpN.len (by rfl) T.b_len (by decide +kernel) (va_cons (ve_n 0) va_nil)) ve_int) (ve_m1 PySem.F.slot_str_count PySem.F.type_str_count mt_countS count_ok (ve_sl rfl (ve_n 0) vo_none (vo_some (ve_n 1))) (ve_s [100] (by decide +kernel)))) va_nil)))))
def b_l_steps : Sf := (sSeq (sAsg (eOpN gTupD (aCons (eCall 1 F_l_heights (aCons (eN 0) aNil)) (aCons (eOp2 vSub (eOp2 (vI gFdiv) (eOpN (g1 lenV) (aCons (eN 0) aNil)) (eC (.int 2))) (eN 1)) aNil))) (gtT 2 (gtCons (gtN 2) (gtCons (gtN 3) gtNil))))
  (sRet (eOf (lLc [4] (iRange rg1 (aCons (eOpN (g1 lenV) (aCons (eN 0) aNil)) aNil)) (gtN 4) (tB2 (eOp2 vEq (eOpN (two fun i j => if j > i then j else i) (aCons (eOp2 vIx (eN 2) (eN 4)) (aCons (eOp2 vIx (eN 2) (eOp2 vAdd (eN 4) (eC (.int 1)))) aNil))) (eN 3))) (eN 4)))))
def F_l_steps : List D → R D := runP 5 b_l_steps
theorem v_l_steps (T : Top K mg AD) : FnOk P w K mg base (L2.CX P w) 2 AD.f_l_steps AD.d_l_steps P_l_steps (spP (BT K AD) 2 F_l_steps) := by
  exact fnP T.D_l_steps.F sc_l_steps 2 rfl rfl (by decide) fun cdv A outer s H E hr =>
  (vss_cons (vs_asg (ve_tup (va_cons (ve_call F_l_heights (v_l_heights T) (hr.mono (by decide)) rfl T.D_l_heights.g T.D_l_heights.F.kp T.D_l_heights.b (takes_of rfl rfl rfl rfl) (va_cons (ve_n 0) va_nil)) (va_cons (ve_op op_sub Op2.sub (ve_op op_fdivW Op2.fdiv (ve_b (call_lenA rfl) OpN.len (by rfl) T.b_len (by decide +kernel) (va_cons (ve_n 0) va_nil)) ve_int) (ve_n 1)) va_nil))) (vg_t (n := 2) rfl (by rfl) (vgs_cons (vg_n 2 sc_l_steps.nd) (vgs_cons (vg_n 3 sc_l_steps.nd) vgs_nil))))
  (vss_one (vs_ret (VF.ve (vf_lc (own := [("_law_t", 4)]) (by rfl) sc_l_steps.nd (vi_range1 (by rfl) T.b_range (va_cons (ve_b (call_lenA rfl) OpN.len (by rfl) T.b_len (by decide +kernel) (va_cons (ve_n 0) va_nil)) va_nil)) (blkOk_by (N := N_l_steps) (sc := defScope s_l_steps) (by decide +kernel)) rfl ⟨(gName 4), (fun _ _ _ _ _ => (pg_name (i := 4) sc_l_steps.nd rfl (by first | exact Or.inl rfl | exact Or.inr rfl))), gtN_ok⟩ (fun _ _ _ _ _ => (vts_one (vt_cmp (op_eqB rfl hr.units) Op2.eq (ve_b (call_max2A (by rfl)) OpN.two (by rfl) T.b_max (by decide +kernel) (va_cons (ve_ix (ix_A rfl) Op2.ix (ve_n 2) (ve_n 4) (fun _ _ => rfl)) (va_cons (ve_ix (ix_A rfl) Op2.ix (ve_n 2) (ve_op (op_addA rfl) Op2.add (ve_n 4) ve_int) (fun _ _ => rfl)) va_nil))) (ve_n 3) (nomark _)))) (fun _ _ _ _ _ => (ve_n 4)))))))
def b_l_fault : Sf := (sSeq (sTryM [(4, (fun c => match c with | 3 => some true | 4 => some false | 5 => some false | 7 => some false | 9 => some false | 66 => some false | _ => none), (sRet (eOpN gTupD (aCons (eC (.str [99, 111, 108, 117, 109, 110])) (aCons (eXf 4 3 0) (aCons (eIsX 4 (fun c => match c with | 3 => some true | _ => none)) aNil)))))), (4, (fun c => match c with | 3 => some false | 4 => some false | 5 => some false | 7 => some false | 9 => some false | 66 => some true | _ => none), (sRet (eOpN gTupD (aCons (eC (.str [108, 97, 121, 101, 114])) (aCons (eXf 4 66 0) (aCons (eIsX 4 (fun c => match c with | 66 => some true | _ => none)) aNil))))))]
  (sIf (tB2 (eOp2 vEq (eN 0) (eC (.int 0)))) (sExpr (eCall 3 F_layer_steps (aCons (eN 1) (aCons (eN 2) (aCons (eN 3) aNil))))) (sIf (tB2 (eOp2 vEq (eN 0) (eC (.int 1)))) (sExpr (eCall 3 F_middles (aCons (eN 1) (aCons (eN 2) (aCons (eN 3) aNil))))) (sIf (tB2 (eOp2 vEq (eN 0) (eC (.int 2)))) (sExpr (eCall 3 F_touching (aCons (eN 1) (aCons (eN 2) (aCons (eN 3) aNil))))) (sExpr (eCall 3 F_thickness (aCons (eN 1) (aCons (eN 2) (aCons (eN 3) aNil)))))))))
  (sRet (eC .non)))
def F_l_fault : List D → R D := runP 5 b_l_fault
theorem v_l_fault (T : Top K mg AD) : FnOk P w K mg base (L2.CX P w) 7 AD.f_l_fault AD.d_l_fault P_l_fault (spP (BT K AD) 4 F_l_fault) := by
  exact fnP T.D_l_fault.F sc_l_fault 4 rfl rfl (by decide) fun cdv A outer s H E hr =>
  (vss_cons (vs_tryM rfl rfl rfl rfl sc_l_fault.nd (takes_of rfl rfl rfl rfl) (Hv.as rfl rfl ⟨rfl, by decide, Or.inl T.g_NoColumn⟩ (fun c b e => match c, e with | 3, rfl => T.ex_NoColumn_NoColumn | 4, rfl => T.ex_BadColumn_NoColumn | 5, rfl => T.ex_BadBoundary_NoColumn | 7, rfl => T.ex_BadCard_NoColumn | 9, rfl => T.ex_BadPlace_NoColumn | 66, rfl => T.ex_NoLayer_NoColumn) (fun a oe cls d pn hz hf => (vss_one (vs_ret (ve_tup (va_cons (ve_s [99, 111, 108, 117, 109, 110] (by decide +kernel)) (va_cons (ve_xf 4 3 0 rfl T.x_NoColumn.xf T.n_NoColumn_column ⟨rfl, (show ¬ (("column" : Str) ∈ ([] : List Str)) from by decide)⟩ hz hf (pv 4)) (va_cons (ve_isX 4 rfl hz hf (pv 4) (ve_clv 2 rfl T.g_CardError) rfl (fun c b e => match c, e with | 3, rfl => ⟨T.q_NoColumn, T.is_NoColumn_CardError⟩) (by rfl) T.b_isinstance (by decide +kernel)) va_nil))))))) (Hv.as rfl rfl ⟨rfl, by decide, Or.inl T.g_NoLayer⟩ (fun c b e => match c, e with | 3, rfl => T.ex_NoColumn_NoLayer | 4, rfl => T.ex_BadColumn_NoLayer | 5, rfl => T.ex_BadBoundary_NoLayer | 7, rfl => T.ex_BadCard_NoLayer | 9, rfl => T.ex_BadPlace_NoLayer | 66, rfl => T.ex_NoLayer_NoLayer) (fun a oe cls d pn hz hf => (vss_one (vs_ret (ve_tup (va_cons (ve_s [108, 97, 121, 101, 114] (by decide +kernel)) (va_cons (ve_xf 4 66 0 rfl T.x_NoLayer.xf T.n_NoLayer_layer ⟨rfl, (show ¬ (("layer" : Str) ∈ ([] : List Str)) from by decide)⟩ hz hf (pv 4)) (va_cons (ve_isX 4 rfl hz hf (pv 4) (ve_clv 2 rfl T.g_CardError) rfl (fun c b e => match c, e with | 66, rfl => ⟨T.q_NoLayer, T.is_NoLayer_CardError⟩) (by rfl) T.b_isinstance (by decide +kernel)) va_nil))))))) Hv.nil))
  (fun W' pn xe tk po => (vss_one (vs_if (vt_cmp (op_eqB rfl hr.units) Op2.eq (ve_n 0) ve_int (nomark _))
  (vss_one (vs_expr (ve_call F_layer_steps (v_layer_steps T) (hr.mono (by decide)) rfl T.D_layer_steps.g T.D_layer_steps.F.kp T.D_layer_steps.b tk (va_cons (ve_n 1) (va_cons (ve_n 2) (va_cons (ve_n 3) va_nil))))))
  (vss_one (vs_if (vt_cmp (op_eqB rfl hr.units) Op2.eq (ve_n 0) ve_int (nomark _))
  (vss_one (vs_expr (ve_call F_middles (v_middles T) (hr.mono (by decide)) rfl T.D_middles.g T.D_middles.F.kp T.D_middles.b tk (va_cons (ve_n 1) (va_cons (ve_n 2) (va_cons (ve_n 3) va_nil))))))
  (vss_one (vs_if (vt_cmp (op_eqB rfl hr.units) Op2.eq (ve_n 0) ve_int (nomark _))
  (vss_one (vs_expr (ve_call F_touching (v_touching T) (hr.mono (by decide)) rfl T.D_touching.g T.D_touching.F.kp T.D_touching.b tk (va_cons (ve_n 1) (va_cons (ve_n 2) (va_cons (ve_n 3) va_nil))))))
  (vss_one (vs_expr (ve_call F_thickness (v_thickness T) (hr.mono (by decide)) rfl T.D_thickness.g T.D_thickness.F.kp T.D_thickness.b tk (va_cons (ve_n 1) (va_cons (ve_n 2) (va_cons (ve_n 3) va_nil))))))))))))))
  (vss_one (vs_ret ve_non)))
def b_l_middles_1 : Sf := (sSeq (sPar 4 5 (aCons (eCall 2 F_l_place (aCons (eN 0) (aCons (eN 3) aNil))) (aCons (eCall 2 F_l_place (aCons (eN 0) (aCons (eOp2 vAdd (eN 3) (eC (.int 1))) aNil))) aNil)))
  (sApp 2 (eOpN gTupD (aCons (eOp2 vAdd (eOp2 vIx (eN 4) (eC (.int 0))) (eOp2 vIx (eN 5) (eC (.int 0)))) (aCons (eOp2 vAdd (eOp2 vIx (eN 4) (eC (.int 1))) (eOp2 vIx (eN 5) (eC (.int 1)))) aNil)))))
def b_l_middles : Sf := (sSeq (sOwn 2 (fun ρ s => (aNil ρ s).bind fun ds s1 => opt (fitL ds) s1))
  (sSeq (sFor (iIt (eN 1)) (gtN 3)
  b_l_middles_1)
  (sFrz 2 (sRet (eN 2)))))
def F_l_middles : List D → R D := runP 6 b_l_middles
theorem v_l_middles (T : Top K mg AD) : FnOk P w K mg base (L2.CX P w) 2 AD.f_l_middles AD.d_l_middles P_l_middles (spP (BT K AD) 2 F_l_middles) := by
  exact fnP T.D_l_middles.F sc_l_middles 2 rfl rfl (by decide) fun cdv A outer s H E hr =>
  (vss_cons (vs_own 2 sc_l_middles.nd (vf_lst va_nil))
  (vss_cons (vs_for (passes_of rfl) (by rfl) (vi_any rfl (ve_n 1)) (vg_n 3 sc_l_middles.nd)
  (vss_cons (vs_par 4 5 (by rfl) sc_l_middles.nd rfl rfl (by decide) rfl rfl (va_cons (ve_call F_l_place (v_l_place T) (hr.mono (by decide)) rfl T.D_l_place.g T.D_l_place.F.kp T.D_l_place.b (takes_of rfl rfl rfl rfl) (va_cons (ve_n 0) (va_cons (ve_n 3) va_nil))) (va_cons (ve_call F_l_place (v_l_place T) (hr.mono (by decide)) rfl T.D_l_place.g T.D_l_place.F.kp T.D_l_place.b (takes_of rfl rfl rfl rfl) (va_cons (ve_n 0) (va_cons (ve_op (op_addA rfl) Op2.add (ve_n 3) ve_int) va_nil))) va_nil)) (by rfl))
  (vss_one (vs_app 2 (ve_tup (va_cons (ve_op (op_addA rfl) Op2.add (ve_ix (ix_A rfl) Op2.ix (ve_n 4) ve_int (fun _ _ => rfl)) (ve_ix (ix_A rfl) Op2.ix (ve_n 5) ve_int (fun _ _ => rfl))) (va_cons (ve_op (op_addA rfl) Op2.add (ve_ix (ix_A rfl) Op2.ix (ve_n 4) ve_int (fun _ _ => rfl)) (ve_ix (ix_A rfl) Op2.ix (ve_n 5) ve_int (fun _ _ => rfl))) va_nil))) rfl (fun h => pe_bm PySem.F.plainAttrs_list PySem.F.slot_list_append PySem.F.type_list_append mt_append (pv 2) h)))))
  (vss_one (vs_frz 2 (vs_ret (ve_n 2))))))
def b_l_touching_1 : Sf := (sApp 2 (eOpN gTupD (aCons (eOp2 vIx (eN 1) (eOp2 vSub (eN 3) (eC (.int 1)))) (aCons (eOp2 vIx (eN 1) (eN 3)) (aCons (eIf (tB2 (eOp2 vEq (eOp2 vIx (eN 0) (eOp2 vIx (eN 1) (eOp2 vSub (eN 3) (eC (.int 1))))) (eC (.str [100])))) (eC (.str [112, 114, 105, 110, 116])) (eC (.str [98, 108, 97, 110, 107]))) aNil)))))
def b_l_touching : Sf := (sSeq (sOwn 2 (fun ρ s => (aNil ρ s).bind fun ds s1 => opt (fitL ds) s1))
  (sSeq (sFor (iRange rg2 (aCons (eC (.int 1)) (aCons (eOpN (g1 lenV) (aCons (eN 1) aNil)) aNil))) (gtN 3)
  b_l_touching_1)
  (sFrz 2 (sRet (eN 2)))))
def F_l_touching : List D → R D := runP 4 b_l_touching
theorem v_l_touching (T : Top K mg AD) : FnOk P w K mg base (L2.CX P w) 1 AD.f_l_touching AD.d_l_touching P_l_touching (spP (BT K AD) 2 F_l_touching) := by
  exact fnP T.D_l_touching.F sc_l_touching 2 rfl rfl (by decide) fun cdv A outer s H E hr =>
  (vss_cons (vs_own 2 sc_l_touching.nd (vf_lst va_nil))
  (vss_cons (vs_for (passes_of rfl) (by rfl) (vi_range2 (by rfl) T.b_range (va_cons ve_int (va_cons (ve_b (call_lenA rfl) OpN.len (by rfl) T.b_len (by decide +kernel) (va_cons (ve_n 1) va_nil)) va_nil))) (vg_n 3 sc_l_touching.nd)
  (vss_one (vs_app 2 (ve_tup (va_cons (ve_ix (ix_A rfl) Op2.ix (ve_n 1) (ve_op op_sub Op2.sub (ve_n 3) ve_int) (fun _ _ => rfl)) (va_cons (ve_ix (ix_A rfl) Op2.ix (ve_n 1) (ve_n 3) (fun _ _ => rfl)) (va_cons (ve_if (vt_cmp (op_eqB rfl hr.units) Op2.eq (ve_ix (ix_A rfl) Op2.ix (ve_n 0) (ve_ix (ix_A rfl) Op2.ix (ve_n 1) (ve_op op_sub Op2.sub (ve_n 3) ve_int) (fun _ _ => rfl)) (fun _ _ => rfl)) (ve_s [100] (by decide +kernel)) (nomark _)) (ve_s [112, 114, 105, 110, 116] (by decide +kernel)) (ve_s [98, 108, 97, 110, 107] (by decide +kernel))) va_nil)))) rfl (fun h => pe_bm PySem.F.plainAttrs_list PySem.F.slot_list_append PySem.F.type_list_append mt_append (pv 2) h))))
  (vss_one (vs_frz 2 (vs_ret (ve_n 2))))))
def b_l_layer_right_1 : Sf := (sIf (tOrD (tB2 (eOp2 vNe (eOp2 vAdd (eOp2 vIx (eN 8) (eC (.int 0))) (eOp2 vIx (eN 8) (eC (.int 1)))) (eOp2 vAdd (eOp2 (vI gMul) (eC (.int 2)) (eN 3)) (eC (.int 1))))) (tAndD (tB2 (eOp2 vGt (eN 7) (eC (.int 0)))) (tB2 (eOp2 vLe (eOp2 vIx (eN 8) (eC (.int 0))) (eOp2 vIx (eOp2 vIx (eN 6) (eOp2 vSub (eN 7) (eC (.int 1)))) (eC (.int 0))))))) (sRet (eC (.bl false))) sNil)
def b_l_layer_right : Sf := (sSeq (sAsg (eCall 2 F_l_steps (aCons (eN 1) (aCons (eN 3) aNil))) (gtN 4))
  (sSeq (sAsg (eCall 3 F_layer_steps (aCons (eN 0) (aCons (eN 2) (aCons (eN 3) aNil)))) (gtN 5))
  (sSeq (sIf (tOrD (tNotD (tT (eOpN (isiD CS) (aCons (eN 5) (aCons (eC (.ty "tuple")) aNil))))) (tOrD (tB2 (eOp2 vNe (eOf (lLst (aCons (eN 5) aNil))) (eN 4))) (tB2 (eOp2 vNe (eM1 joinD (eC (.str [])) (eOf (lLc [9] (iIt (eN 4)) (gtN 9) tTrue (eOp2 vIx (eN 1) (eN 9))))) (eOp2 vRepS (eC (.str [100, 111])) (eOp2 (vI gFdiv) (eOpN (g1 lenV) (aCons (eN 4) aNil)) (eC (.int 2)))))))) (sRet (eC (.bl false))) sNil)
  (sSeq (sAsg (eCall 3 F_middles (aCons (eN 0) (aCons (eN 2) (aCons (eN 3) aNil)))) (gtN 6))
  (sSeq (sIf (tOrD (tNotD (tT (eCall 2 F_l_rows (aCons (eN 6) (aCons (eCall 2 F_l_middles (aCons (eN 1) (aCons (eN 4) aNil))) aNil))))) (tNotD (tT (eCall 2 F_l_rows (aCons (eCall 3 F_touching (aCons (eN 0) (aCons (eN 2) (aCons (eN 3) aNil)))) (aCons (eCall 2 F_l_touching (aCons (eN 1) (aCons (eN 4) aNil))) aNil)))))) (sRet (eC (.bl false))) sNil)
  (sSeq (sFor (iEnum (aCons (eN 6) aNil)) (gtT 2 (gtCons (gtN 7) (gtCons (gtN 8) gtNil)))
  b_l_layer_right_1)
  (sRet (eCall 2 F_l_number (aCons (eCall 3 F_thickness (aCons (eN 0) (aCons (eN 2) (aCons (eN 3) aNil)))) (aCons (eOpN (g1 lenV) (aCons (eN 4) aNil)) aNil))))))))))
def F_l_layer_right : List D → R D := runP 10 b_l_layer_right
theorem v_l_layer_right (T : Top K mg AD) : FnOk P w K mg base (L2.CX P w) 7 AD.f_l_layer_right AD.d_l_layer_right P_l_layer_right (spP (BT K AD) 4 F_l_layer_right) := by
  exact fnP T.D_l_layer_right.F sc_l_layer_right 4 rfl rfl (by decide) fun cdv A outer s H E hr =>
  (vss_cons (vs_set 4 sc_l_layer_right.nd (ve_call F_l_steps (v_l_steps T) (hr.mono (by decide)) rfl T.D_l_steps.g T.D_l_steps.F.kp T.D_l_steps.b (takes_of rfl rfl rfl rfl) (va_cons (ve_n 1) (va_cons (ve_n 3) va_nil))))
  (vss_cons (vs_set 5 sc_l_layer_right.nd (ve_call F_layer_steps (v_layer_steps T) (hr.mono (by decide)) rfl T.D_layer_steps.g T.D_layer_steps.F.kp T.D_layer_steps.b (takes_of rfl rfl rfl rfl) (va_cons (ve_n 0) (va_cons (ve_n 2) (va_cons (ve_n 3) va_nil)))))
  (vss_cons (vs_if (VW.vt (vw_or (vt_not (vt_val rfl (ve_b (call_isiA rfl) (OpN.isi (kit T)) (by rfl) T.b_isinstance (by decide +kernel) (va_cons (ve_n 5) (va_cons (ve_tyv (by rfl) T.b_tuple (by decide +kernel)) va_nil))) (by intro _; rfl))) (vw_or (vt_cmp (op_neB rfl hr.units) Op2.ne (VF.ve (vf_list rfl (by rfl) T.b_list (by decide +kernel) (va_cons (ve_n 5) va_nil))) (ve_n 4) (nomark _)) (vw_or1 (vt_cmp (op_neB rfl hr.units) Op2.ne (ve_m1 PySem.F.slot_str_join PySem.F.type_str_join (mt_joinA rfl) join_ok (ve_s [] (by decide +kernel)) (VF.ve (vf_lc (own := [("_law_t", 9)]) (by rfl) sc_l_layer_right.nd (vi_any rfl (ve_n 4)) (blkOk_by (N := N_l_layer_right) (sc := defScope s_l_layer_right) (by decide +kernel)) rfl ⟨(gName 9), (fun _ _ _ _ _ => (pg_name (i := 9) sc_l_layer_right.nd rfl (by first | exact Or.inl rfl | exact Or.inr rfl))), gtN_ok⟩ (fun _ _ _ _ _ => vts_nil) (fun _ _ _ _ _ => (ve_ix (ix_A rfl) Op2.ix (ve_n 1) (ve_n 9) (fun _ _ => rfl)))))) (ve_op op_repS2 Op2.repS (ve_s [100, 111] (by decide +kernel)) (ve_op op_fdivW Op2.fdiv (ve_b (call_lenA rfl) OpN.len (by rfl) T.b_len (by decide +kernel) (va_cons (ve_n 4) va_nil)) ve_int)) (nomark _))))))
  (vss_one (vs_ret ve_bl))
  vss_nil)
  (vss_cons (vs_set 6 sc_l_layer_right.nd (ve_call F_middles (v_middles T) (hr.mono (by decide)) rfl T.D_middles.g T.D_middles.F.kp T.D_middles.b (takes_of rfl rfl rfl rfl) (va_cons (ve_n 0) (va_cons (ve_n 2) (va_cons (ve_n 3) va_nil)))))
  (vss_cons (vs_if (VW.vt (vw_or (vt_not (vt_val rfl (ve_call F_l_rows (v_l_rows T) (hr.mono (by decide)) rfl T.D_l_rows.g T.D_l_rows.F.kp T.D_l_rows.b (takes_of rfl rfl rfl rfl) (va_cons (ve_n 6) (va_cons (ve_call F_l_middles (v_l_middles T) (hr.mono (by decide)) rfl T.D_l_middles.g T.D_l_middles.F.kp T.D_l_middles.b (takes_of rfl rfl rfl rfl) (va_cons (ve_n 1) (va_cons (ve_n 4) va_nil))) va_nil))) (by intro _; rfl))) (vw_or1 (vt_not (vt_val rfl (ve_call F_l_rows (v_l_rows T) (hr.mono (by decide)) rfl T.D_l_rows.g T.D_l_rows.F.kp T.D_l_rows.b (takes_of rfl rfl rfl rfl) (va_cons (ve_call F_touching (v_touching T) (hr.mono (by decide)) rfl T.D_touching.g T.D_touching.F.kp T.D_touching.b (takes_of rfl rfl rfl rfl) (va_cons (ve_n 0) (va_cons (ve_n 2) (va_cons (ve_n 3) va_nil)))) (va_cons (ve_call F_l_touching (v_l_touching T) (hr.mono (by decide)) rfl T.D_l_touching.g T.D_l_touching.F.kp T.D_l_touching.b (takes_of rfl rfl rfl rfl) (va_cons (ve_n 1) (va_cons (ve_n 4) va_nil))) va_nil))) (by intro _; rfl))))))
  (vss_one (vs_ret ve_bl))
  vss_nil)
  (vss_cons (vs_for (passes_of rfl) (by rfl) (vi_enum rfl (by rfl) T.b_enumerate (va_cons (ve_n 6) va_nil)) (vg_t (n := 2) rfl (by rfl) (vgs_cons (vg_n 7 sc_l_layer_right.nd) (vgs_cons (vg_n 8 sc_l_layer_right.nd) vgs_nil)))
  (vss_one (vs_if (VW.vt (vw_or (vt_cmp (op_neB rfl hr.units) Op2.ne (ve_op (op_addA rfl) Op2.add (ve_ix (ix_A rfl) Op2.ix (ve_n 8) ve_int (fun _ _ => rfl)) (ve_ix (ix_A rfl) Op2.ix (ve_n 8) ve_int (fun _ _ => rfl))) (ve_op (op_addA rfl) Op2.add (ve_op op_mul Op2.mul ve_int (ve_n 3)) ve_int) (nomark _)) (vw_or1 (VW.vt (vw_and (vt_cmp op_gt Op2.cmp (ve_n 7) ve_int (nomark _)) (vw_and1 (vt_cmp op_le Op2.cmp (ve_ix (ix_A rfl) Op2.ix (ve_n 8) ve_int (fun _ _ => rfl)) (ve_ix (ix_A rfl) Op2.ix (ve_ix (ix_A rfl) Op2.ix (ve_n 6) (ve_op op_sub Op2.sub (ve_n 7) ve_int) (fun _ _ => rfl)) ve_int (fun _ _ => rfl)) (nomark _))))))))
  (vss_one (vs_ret ve_bl))
  vss_nil)))
  (vss_one (vs_ret (ve_call F_l_number (v_l_number T) (hr.mono (by decide)) rfl T.D_l_number.g T.D_l_number.F.kp T.D_l_number.b (takes_of rfl rfl rfl rfl) (va_cons (ve_call F_thickness (v_thickness T) (hr.mono (by decide)) rfl T.D_thickness.g T.D_thickness.F.kp T.D_thickness.b (takes_of rfl rfl rfl rfl) (va_cons (ve_n 0) (va_cons (ve_n 2) (va_cons (ve_n 3) va_nil)))) (va_cons (ve_b (call_lenA rfl) OpN.len (by rfl) T.b_len (by decide +kernel) (va_cons (ve_n 4) va_nil)) va_nil)))))))))))
end
end Vv
namespace Vv
def b_law_1 : Sf := (sSeq (sIf (tNotD (tT (eCall 2 F_l_number (aCons (eCall 3 F_layer_of (aCons (eN 6) (aCons (eN 8) (aCons (eN 11) aNil)))) (aCons (eN 10) aNil))))) (sRet (eC (.bl false))) sNil)
  (sApp 9 (eN 11)))
def b_law_2 : Sf := (sSeq (sIf (tOrD (tNotD (tT (eCall 4 F_l_layer_right (aCons (eN 6) (aCons (eOp2 vIx (eN 4) (eN 8)) (aCons (eN 8) (aCons (eN 10) aNil))))))) (tB2 (eOp2 vNe (eCall 3 F_layer_steps (aCons (eN 7) (aCons (eN 8) (aCons (eN 10) aNil)))) (eCall 3 F_layer_steps (aCons (eN 6) (aCons (eN 8) (aCons (eN 10) aNil))))))) (sRet (eC (.bl false))) sNil)
  (sFor (iIt (eCall 3 F_layer_steps (aCons (eN 6) (aCons (eN 8) (aCons (eN 10) aNil))))) (gtN 11)
  b_law_1))
def b_law_3 : Sf := (sSeq (sOwn 9 (fun ρ s => (aNil ρ s).bind fun ds s1 => opt (fitL ds) s1))
  (sSeq (sFor (iRange rg1 (aCons (eN 2) aNil)) (gtN 10)
  b_law_2)
  (sFrz 9 (sIf (tB2 (eOp2 vNe (eOpN (g1 sortD) (aCons (eN 9) aNil)) (eOf (lRg (aCons (eOp2 (vI gMul) (eC (.int 2)) (eN 2)) aNil))))) (sRet (eC (.bl false))) sNil))))
def b_law_4 : Sf := (sSeq (sIf (tOrD (tB2 (eOp2 vNe (eCall 4 F_l_fault (aCons (eN 14) (aCons (eN 6) (aCons (eN 12) (aCons (eN 13) aNil))))) (eOpN gTupD (aCons (eC (.str [99, 111, 108, 117, 109, 110])) (aCons (eN 12) (aCons (eC (.bl true)) aNil)))))) (tB2 (eOp2 vNe (eCall 4 F_l_fault (aCons (eN 14) (aCons (eN 6) (aCons (eC (.int 0)) (aCons (eN 13) aNil))))) (eOpN gTupD (aCons (eC (.str [108, 97, 121, 101, 114])) (aCons (eN 13) (aCons (eC (.bl true)) aNil))))))) (sRet (eC (.bl false))) sNil)
  (sIf (tOrD (tB2 (eOp2 vNe (eCall 4 F_l_fault (aCons (eN 14) (aCons (eN 6) (aCons (eN 12) (aCons (eC (.int 0)) aNil))))) (eOpN gTupD (aCons (eC (.str [99, 111, 108, 117, 109, 110])) (aCons (eN 12) (aCons (eC (.bl true)) aNil)))))) (tB2 (eOp2 (vIsN true) (eCall 4 F_l_fault (aCons (eN 14) (aCons (eN 6) (aCons (eOp2 vSub (eN 3) (eC (.int 1))) (aCons (eOp2 vSub (eN 2) (eC (.int 1))) aNil))))) (eC .non)))) (sRet (eC (.bl false))) sNil))
def b_law : Sf := (sSeq (sAsg (eCallH 1 0 F_l_sizes aNil) (gtT 2 (gtCons (gtN 2) (gtCons (gtN 3) gtNil))))
  (sSeq (sAsg (eCallH 1 2 F_l_words (aCons (eN 2) (aCons (eN 3) aNil))) (gtN 4))
  (sSeq (sAsg (eCallH 1 1 F_l_slits (aCons (eN 4) aNil)) (gtN 5))
  (sSeq (sPar 6 7 (aCons (eCall 2 F_l_card (aCons (eN 4) (aCons (eN 5) aNil))) (aCons (eCall 2 F_l_card (aCons (eN 4) (aCons (eOpN gLstD aNil) aNil))) aNil)))
  (sSeq (sFor (iRange rg1 (aCons (eN 3) aNil)) (gtN 8)
  b_law_3)
  (sSeq (sAsg (eCallH 1 1 F_l_pick (aCons (eOpN gLstD (aCons (eOp1 negD (eC (.int 1))) (aCons (eN 3) (aCons (eC .non) (aCons (eC (.str [48])) (aCons (eC (.bl true)) (aCons (eOp2 (vI gPow) (eC (.int 10)) (eC (.int 20))) aNil))))))) aNil)) (gtN 12))
  (sSeq (sAsg (eCallH 1 1 F_l_pick (aCons (eOpN gLstD (aCons (eOp1 negD (eC (.int 1))) (aCons (eN 2) (aCons (eC .non) (aCons (eC (.str [48])) (aCons (eC (.bl false)) (aCons (eOp1 negD (eOp2 (vI gPow) (eC (.int 10)) (eC (.int 20)))) aNil))))))) aNil)) (gtN 13))
  (sSeq (sFor (iRange rg1 (aCons (eC (.int 4)) aNil)) (gtN 14)
  b_law_4)
  (sRet (eCall 4 F_l_layer_right (aCons (eN 6) (aCons (eOp2 vIx (eN 4) (eC (.int 0))) (aCons (eC (.int 0)) (aCons (eCallH 1 1 F_l_draw (aCons (eN 2) aNil)) aNil))))))))))))))
end Vv
namespace Vv
set_option hygiene false in
local macro_rules | `(tactic| walk_at "ev") => `(tactic| simp [sSeq, sIf, sRet, sRetN, sNil, sAsg, sExpr, sRaise, sOwn, sFrz, sApp, sFor, tOrD, tNotD, tT, tU, tB2, tAndD, eAnd, eOr, eIf, eOp1, eOp2, eOpN, eCall, eC, eN, eU, eOf, aCons, aNil, en0, R.bind, R.then, R.calm, SR.then, pickP, opt, truD, blD, notD,
  vNe, vEq, vIsN, isNonD, pl, D.eqv, D.eqvs, g1, lenV, lenD, vI, vCmp, gtT, gtTL, gtCons, gtN, gtNil, gTupD, gLstD, fitL, fit, iEnum, iIt, itD, enumF, loopD, eChain, tupD, *])
theorem is_number_int (i : Int) : F_is_number [.int i] = .ok (.bl true) none := rfl
theorem is_seq_tup (l : List D) : F_is_sequence [.tup l] = .ok (.bl true) none := rfl
theorem is_whole_int (i a b : Int) : F_is_whole [.int i, .int a, .int b] = .ok (.bl (decide (a ≤ i) && decide (i ≤ b))) none := by
  unfold F_is_whole b_is_whole runP resP
  simp only [sRet, eAnd, eCall, eN, aCons, aNil, en0, eChain, R.bind, List.map, List.cons_append, List.nil_append, List.getElem?_cons_zero, List.getElem?_cons_succ, pickP, is_number_int, List.length_cons, List.length_nil, opt, vCmp, R.then, if_true, Nat.reduceAdd]
  cases decide (a ≤ i) <;> rfl
abbrev markD (m : Int × Int) : D := .tup [.int m.1, .int m.2]
theorem gMul2 (n : Int) : gMul 2 n = some (2 * n) := by
  unfold gMul small64
  rw [if_pos (by simp)]
def OkMk (n w : Int) (m : Int × Int) : Prop := 0 ≤ m.1 ∧ m.1 ≤ w - 2 ∧ 1 ≤ m.2 ∧ m.2 ≤ 2 * n - 2
theorem mark_of_pair (m : Int × Int) (n w : Int) (h : OkMk n w m) : F_mark_of [markD m, .int n, .int w] = .ok (markD m) none := by
  obtain ⟨h1, h2, h3, h4⟩ := h
  have g := gMul2 n
  have := is_seq_tup
  have := is_whole_int
  unfold F_mark_of b_mark_of runP resP
  walk_at "ev"
/-- the mark is none of these -/
theorem in_marks (m : Int × Int) : ∀ l : List (Int × Int), inD (markD m) (l.map markD) = decide (m ∈ l)
  | [] => rfl
  | x :: l => by
    show (D.eqv (markD x) (markD m) || inD (markD m) (l.map markD)) = _
    rw [in_marks m l]
    have e : D.eqv (markD x) (markD m) = decide (m = x) := by
      obtain ⟨a, b⟩ := m
      obtain ⟨c, d⟩ := x
      have hb : ∀ x y : Int, (x == y) = decide (y = x) := fun x y => by
        by_cases h : x = y
        · subst h; simp
        · have h2 : y ≠ x := fun e => h e.symm
          simp [h, h2]
      simp [markD, D.eqv, D.eqvs, Prod.ext_iff, hb]
    rw [e]
    by_cases h : m = x <;> by_cases h2 : m ∈ l <;> simp [h, h2]
abbrev envM (x0 : D) (n w : Int) (P : List (Int × Int)) (a b c : Sl) : En := [.val x0, .val (.int n), .val (.int w), .val (.tup []), .own (P.map markD), a, b, c]
theorem pl_marks (k : Nat) (P : List (Int × Int)) : (P.map markD).all (pl (k + 2)) = true := by
  rw [List.all_map, List.all_eq_true]
  intro m _
  rfl
theorem inD_nil (x : D) : inD x [] = false := rfl
theorem body_marks (x0 : D) (n w : Int) (P : List (Int × Int)) (m : Int × Int) (k : Nat) (c : Sl) (h : OkMk n w m) (hn : m ∉ P) (hl : P.length ≤ 1000) :
    b_new_marks_1 (envM x0 n w P (.val (.int k)) (.val (markD m)) c) none = .nx (envM x0 n w (P ++ [m]) (.val (.int k)) (.val (markD m)) (.val (markD m))) none := by
  have h1 := mark_of_pair m n w h
  have h2 := in_marks m P
  have h3 := pl_marks 5 P
  have h4 : P.length ≤ 100000 := by omega
  unfold b_new_marks_1
  simp only [markD] at h1 h2 h3
  simp [sSeq, sIf, sAsg, sNil, sApp, sRaise, tU, tOrD, tB2, eOp2, eCall, eN, eC, aCons, aNil, R.bind, R.then, R.calm, SR.then, pickP, opt, blD, vIsN, isNonD, vIn, pl, gtN, fit, noOb, frzS, inD_nil, h1, h2, h3, h4, hn]
theorem loop_marks (x0 : D) (n w : Int) : ∀ (R P : List (Int × Int)) (k : Nat) (a b c : Sl), (∀ m ∈ R, OkMk n w m) → (P ++ R).Nodup → (P ++ R).length ≤ 1000 →
    ∃ a' b' c', loopD (gtT 2 (gtCons (gtN 5) (gtCons (gtN 6) gtNil))) b_new_marks_1 (enumF k (R.map markD)) (envM x0 n w P a b c) none = .nx (envM x0 n w (P ++ R) a' b' c') none
  | [], P, k, a, b, c, _, _, _ => ⟨a, b, c, by rw [List.append_nil]; rfl⟩
  | m :: R, P, k, a, b, c, h, nd, hl => by
    have e : P ++ m :: R = (P ++ [m]) ++ R := by simp
    have hm : m ∉ P := fun hp => by
      have := List.nodup_append.mp nd
      exact this.2.2 m hp m List.mem_cons_self rfl
    have hl1 : P.length ≤ 1000 := by rw [List.length_append] at hl; omega
    obtain ⟨a', b', c', q⟩ := loop_marks x0 n w R (P ++ [m]) (k + 1) (.val (.int k)) (.val (markD m)) (.val (markD m)) (fun z hz => h z (List.mem_cons_of_mem _ hz)) (e ▸ nd) (e ▸ hl)
    refine ⟨a', b', c', ?_⟩
    rw [e, ← q]
    show (match b_new_marks_1 (envM x0 n w P (.val (.int k)) (.val (markD m)) c) none with
      | .nx ρ2 s2 => loopD (gtT 2 (gtCons (gtN 5) (gtCons (gtN 6) gtNil))) b_new_marks_1 (enumF (k + 1) (R.map markD)) ρ2 s2
      | .ct ρ2 s2 => loopD (gtT 2 (gtCons (gtN 5) (gtCons (gtN 6) gtNil))) b_new_marks_1 (enumF (k + 1) (R.map markD)) ρ2 s2
      | .bk ρ2 s2 => .nx ρ2 s2
      | r => r) = _
    rw [body_marks x0 n w P m k c (h m List.mem_cons_self) hm hl1]
/-- these things, in a list or in a tuple -/
inductive SeqOf (ds : List D) : D → Prop
  | l : SeqOf ds (.lst ds)
  | t : SeqOf ds (.tup ds)
theorem new_marks_ok (M : List (Int × Int)) (n w : Int) {q : D} (hq : SeqOf (M.map markD) q) (h : ∀ m ∈ M, OkMk n w m) (nd : M.Nodup) (hl : M.length ≤ 1000) : F_new_marks [q, .int n, .int w, .tup []] = .ok (.lst (M.map markD)) none := by
  obtain ⟨a', b', c', k⟩ := loop_marks q n w M [] 0 .no .no .no h nd hl
  have e1 : loopD (gtT 2 (gtCons (gtN 5) (gtCons (gtN 6) gtNil))) b_new_marks_1 (enumF 0 (M.map markD)) [.val q, .val (.int n), .val (.int w), .val (.tup []), .own [], .no, .no, .no] none = _ := k
  unfold F_new_marks b_new_marks runP resP
  have h2 : F_is_sequence [q] = .ok (.bl true) none := by cases hq <;> rfl
  have h3 : itD q = some (M.map markD) := by cases hq <;> rfl
  simp [sSeq, sIf, sRet, sNil, sOwn, sFrz, frz1, frzS, sFor, iEnum, tNotD, tT, eCall, eN, eC, aCons, aNil, R.bind, R.then, SR.then, pickP, opt, truD, en0, fitL, fit, h2, h3, e1]
end Vv
namespace Vv
theorem loop_ind {gt : D → En → Option En} {gb : Sf} (I : List D → En → S → Prop) (step : ∀ d ds ρ s, I (d :: ds) ρ s → ∃ ρ1 ρ2 s2, gt d ρ = some ρ1 ∧ gb ρ1 s = .nx ρ2 s2 ∧ I ds ρ2 s2) : ∀ ds ρ s, I ds ρ s → ∃ ρ' s', loopD gt gb ds ρ s = .nx ρ' s' ∧ I [] ρ' s'
  | [], ρ, s, h => ⟨ρ, s, rfl, h⟩
  | d :: ds, ρ, s, h => by
    obtain ⟨ρ1, ρ2, s2, e1, e2, h2⟩ := step d ds ρ s h
    obtain ⟨ρ', s', e3, h3⟩ := loop_ind I step ds ρ2 s2 h2
    refine ⟨ρ', s', ?_, h3⟩
    unfold loopD
    simp only [e1, e2, e3]
abbrev colD (l : List Nat) : D := .obj 0 [.str l, .int (l.count 100 : Nat)]
theorem enum_mem : ∀ (k : Nat) (ds : List D) (d : D), d ∈ enumF k ds → ∃ i x, x ∈ ds ∧ d = .tup [.int i, x]
  | _, [], _, h => nomatch h
  | k, x :: ds, d, h => by
    rcases List.mem_cons.mp (show d ∈ .tup [.int (k : Int), x] :: enumF (k + 1) ds from h) with h | h
    · exact ⟨_, x, List.mem_cons_self, h⟩
    · obtain ⟨i, y, hy, e⟩ := enum_mem (k + 1) ds d h
      exact ⟨i, y, List.mem_cons_of_mem _ hy, e⟩
theorem body_cols1 (q : D) (l : List Nat) (i : Int) : b_check_columns_1 [.val q, .val (.int i), .val (colD l)] none = .nx [.val q, .val (.int i), .val (colD l)] none := rfl
theorem at0 {ds : List D} {q x : D} {r : List D} (h : SeqOf ds q) (e : ds = x :: r) : vIx q (.int 0) = some x := by
  subst e
  have h0 : (0 : Int) < (r.length : Int) + 1 := by omega
  cases h <;> simp [vIx, atI, ixN, h0]
theorem body_cols2 {W : List (List Nat)} {q : D} (hq : SeqOf (W.map colD) q) (w0 : List Nat) (r : List (List Nat)) (hW : W = w0 :: r) (l : List Nat) (i : Int) (h : l.count 100 = w0.count 100) :
    b_check_columns_2 [.val q, .val (.int i), .val (colD l)] none = .nx [.val q, .val (.int i), .val (colD l)] none := by
  have h0 := at0 hq (show W.map colD = colD w0 :: r.map colD by rw [hW]; rfl)
  unfold b_check_columns_2
  simp [sIf, sNil, tB2, eOp2, eOp1, eAlt, eN, eC, fldD, R.bind, R.then, opt, blD, vNe, pl, D.eqv, h0, h]
theorem check_columns_ok {W : List (List Nat)} {q : D} {n : Nat} (hq : SeqOf (W.map colD) q) (h1 : 1 ≤ W.length) (h2 : W.length ≤ 12) (hn : ∀ l ∈ W, l.count 100 = n) : F_check_columns [q] = .ok .non none := by
  obtain ⟨w0, r, rfl⟩ : ∃ w0 r, W = w0 :: r := by
    cases W with
    | nil => exact absurd h1 (by decide)
    | cons a b => exact ⟨a, b, rfl⟩
  have mem : ∀ d ∈ enumF 0 ((w0 :: r).map colD), ∃ i l, l ∈ w0 :: r ∧ d = .tup [.int i, colD l] := fun d hd => by
    obtain ⟨i, x, hx, e⟩ := enum_mem _ _ _ hd
    obtain ⟨l, hl, rfl⟩ := List.mem_map.mp hx
    exact ⟨i, l, hl, e⟩
  have L1 := loop_ind (gt := gtT 2 (gtCons (gtN 1) (gtCons (gtN 2) gtNil))) (gb := b_check_columns_1) (fun ds ρ s => (∀ d ∈ ds, ∃ i l, l ∈ w0 :: r ∧ d = .tup [.int i, colD l]) ∧ s = none ∧ ∃ a b, ρ = [.val q, a, b]) (fun d ds ρ s h => by
    obtain ⟨hd, rfl, a, b, rfl⟩ := h
    obtain ⟨i, l, hl, rfl⟩ := hd d List.mem_cons_self
    exact ⟨_, _, _, rfl, body_cols1 q l i, fun d hd2 => hd d (List.mem_cons_of_mem _ hd2), rfl, _, _, rfl⟩)
  have L2 := loop_ind (gt := gtT 2 (gtCons (gtN 1) (gtCons (gtN 2) gtNil))) (gb := b_check_columns_2) (fun ds ρ s => (∀ d ∈ ds, ∃ i l, l ∈ w0 :: r ∧ d = .tup [.int i, colD l]) ∧ s = none ∧ ∃ a b, ρ = [.val q, a, b]) (fun d ds ρ s h => by
    obtain ⟨hd, rfl, a, b, rfl⟩ := h
    obtain ⟨i, l, hl, rfl⟩ := hd d List.mem_cons_self
    exact ⟨_, _, _, rfl, body_cols2 hq w0 r rfl l i ((hn l hl).trans (hn w0 List.mem_cons_self).symm), fun d hd2 => hd d (List.mem_cons_of_mem _ hd2), rfl, _, _, rfl⟩)
  obtain ⟨ρ1, s1, e1, _, rfl, a1, b1, rfl⟩ := L1 _ [.val q, .no, .no] none ⟨mem, rfl, _, _, rfl⟩
  obtain ⟨ρ2, s2, e2, _, rfl, a2, b2, rfl⟩ := L2 _ [.val q, a1, b1] none ⟨mem, rfl, _, _, rfl⟩
  have k1 : (1 : Int) ≤ (r.length : Int) + 1 := by omega
  have k2 : (r.length : Int) + 1 ≤ 12 := by
    have : (w0 :: r).length ≤ 12 := h2
    rw [List.length_cons] at this
    omega
  have q1 : F_is_sequence [q] = .ok (.bl true) none := by cases hq <;> rfl
  have q2 : itD q = some ((w0 :: r).map colD) := by cases hq <;> rfl
  have q3 : lenV q = some (.int ((r.length : Int) + 1)) := by cases hq <;> simp [lenV, lenD]
  unfold F_check_columns b_check_columns runP resP
  simp only [List.map_cons] at e1 e2 q2
  simp [sSeq, sIf, sNil, sFor, iEnum, tOrD, tNotD, tT, tB2, eChain, eCall, eOpN, g1, eN, eC, aCons, aNil, R.bind, R.then, SR.then, pickP, opt, truD, blD, vCmp, en0, q1, q2, q3, e1, e2, k1, k2]
theorem lc_map {gt : D → En → Option En} {fe : Ef} {ρ : En} {g : D → D} : ∀ (ds acc : List D), (∀ d ∈ ds, ∃ ρ1, gt d ρ = some ρ1 ∧ fe ρ1 none = .ok (g d) none) → acc.length + ds.length ≤ 100000 → lcD gt tTrue fe ρ ds acc none = .ok (acc ++ ds.map g) none
  | [], acc, _, _ => by rw [List.map_nil, List.append_nil]; rfl
  | d :: ds, acc, h, hl => by
    obtain ⟨ρ1, e1, e2⟩ := h d List.mem_cons_self
    rw [List.length_cons] at hl
    have ih := lc_map (gt := gt) (fe := fe) (ρ := ρ) (g := g) ds (acc ++ [g d]) (fun z hz => h z (List.mem_cons_of_mem _ hz)) (by rw [List.length_append, List.length_singleton]; omega)
    have hf : acc.length ≤ 100000 := by omega
    unfold lcD
    simp [opt, R.bind, R.calm, tTrue, e1, e2, fit, hf]
    simpa [tTrue] using ih
theorem all_pairs : ∀ M : List (Int × Int), allD2 dPair (M.map markD) = some M
  | [] => rfl
  | m :: M => by
    show (dPair (markD m)).bind (fun x => (allD2 dPair (M.map markD)).map fun xs => x :: xs) = _
    rw [all_pairs M]
    rfl
theorem sort_marks (M : List (Int × Int)) (hl : M.length ≤ 1000) : sortD (.lst (M.map markD)) = some (.lst ((isort leP M).map markD)) := by
  have hf : M.length ≤ 100000 := by omega
  cases M with
  | nil => rfl
  | cons m M =>
    have e1 : srt dOne leI .int ((m :: M).map markD) = none := rfl
    have e2 : srt dPair leP (fun p => .tup [.int p.1, .int p.2]) ((m :: M).map markD) = some (.lst ((isort leP (m :: M)).map markD)) := by
      unfold srt
      rw [all_pairs]
      rfl
    show (if fit ((m :: M).map markD).length then _ else none) = _
    rw [e1, e2, if_pos (by unfold fit; rw [List.length_map]; exact decide_eq_true hf)]
    rfl
abbrev cardD (W : List (List Nat)) (n : Nat) (M : List (Int × Int)) : D := .obj 1 [.tup (W.map colD), .int n, .int W.length, .tup (W.map .str), .tup (M.map markD)]
theorem isort_len {α : Type} (le : α → α → Bool) (l : List α) : (isort le l).length = l.length := (isort_perm l).length_eq
theorem card_init {W : List (List Nat)} {M : List (Int × Int)} {q mk : D} {n : Nat} (hq : SeqOf (W.map colD) q) (hm : SeqOf (M.map markD) mk) (h1 : 1 ≤ W.length) (h2 : W.length ≤ 12) (hn : ∀ l ∈ W, l.count 100 = n) (ok : ∀ m ∈ M, OkMk n W.length m) (nd : M.Nodup) (hl : M.length ≤ 1000) :
    F_Card___init__ [q, mk] = .ok (cardD W n (isort leP M)) none := by
  obtain ⟨w0, r, hW⟩ : ∃ w0 r, W = w0 :: r := by
    cases W with
    | nil => exact absurd h1 (by decide)
    | cons a b => exact ⟨a, b, rfl⟩
  have c0 : w0.count 100 = n := hn w0 (by rw [hW]; exact List.mem_cons_self)
  have k1 := check_columns_ok hq h1 h2 hn
  have k2 := at0 hq (show W.map colD = colD w0 :: r.map colD by rw [hW]; rfl)
  have k3 := new_marks_ok M n W.length hm ok nd hl
  have k4 := sort_marks M hl
  have k5 : itD q = some (W.map colD) := by cases hq <;> rfl
  have k6 : tupD q = some (.tup (W.map colD)) := by
    have hf : W.length ≤ 100000 := by omega
    cases hq <;> simp [tupD, fit, hf]
  have k7 : lenV q = some (.int (W.length : Nat)) := by cases hq <;> simp [lenV, lenD]
  have k8 : ∀ x : List D, lcD (gtN 3) tTrue (eOp1 (fldD 0 0) (eN 3)) [.ob 1 x, .val q, .val mk, .no] (W.map colD) [] none = .ok (W.map .str) none := fun x => by
    rw [lc_map (g := fun d => match d with | .obj _ [w, _] => w | d => d) (W.map colD) [] (fun d hd => ?_) (by simp; omega)]
    · rw [List.nil_append, List.map_map]
      rfl
    · obtain ⟨l, _, rfl⟩ := List.mem_map.mp hd
      exact ⟨_, rfl, rfl⟩
  have k9 : fit (W.map D.str).length = true := by
    unfold fit
    rw [List.length_map]
    exact decide_eq_true (by omega)
  have k10 : fit ((isort leP M).map markD).length = true := by
    unfold fit
    rw [List.length_map, isort_len]
    exact decide_eq_true (by omega)
  have k11 : tupD (.lst (W.map D.str)) = some (.tup (W.map D.str)) := rfl
  have k12 : tupD (.lst ((isort leP M).map markD)) = some (.tup ((isort leP M).map markD)) := rfl
  have k13 : gTupD [] = some (.tup []) := rfl
  unfold F_Card___init__ b_Card___init__ runI
  simp [sSeq, sExpr, sSelf, eCall, eOpN, eOp1, eOp2, eAlt, eOb, eOf, lLc, iIt, g1, fldD, eN, eC, aCons, aNil, R.bind, R.then, SR.then, pickP, opt, en0, wipeE, plainAt, resI, k11, k12, k13, k1, k2, k3, k4, k5, k6, k7, k8, c0]
end Vv
namespace Vv
theorem seq_asg {f : Ef} {i : Nat} {g : Sf} {ρ : En} {s s1 : S} {d : D} (h : f ρ s = .ok d s1) : sSeq (sAsg f (gtN i)) g ρ s = g (ρ.set i (.val d)) s1 := by
  unfold sSeq sAsg
  rw [h]
  rfl
theorem seq_for {it : Af} {gt : D → En → Option En} {b g : Sf} {ρ ρ' : En} {s s1 s' : S} {ds : List D} (h1 : it ρ s = .ok ds s1) (h2 : loopD gt b ds ρ s1 = .nx ρ' s') : sSeq (sFor it gt b) g ρ s = g ρ' s' := by
  unfold sSeq sFor
  rw [h1]
  show (loopD gt b ds ρ s1).then g = _
  rw [h2]
  rfl
theorem ret_of {f : Ef} {ρ : En} {s s1 : S} {d : D} (h : f ρ s = .ok d s1) : sRet f ρ s = .rt d s1 := by
  unfold sRet
  rw [h]
  rfl
abbrev envW (n : Nat) (l : List Nat) (h : Int) (k x y : Sl) : En := [.hand, .val (.int n), .val (.str l), .val (.int h), k, x, y]
theorem word_d {n : Nat} {l : List Nat} {h : Int} {st : HS} (k x y : Sl) (hl2 : l.length + 1 ≤ 1000) (h1 : l.count 100 < n) (h2 : h ≤ 0) : b_l_word_1 (envW n l h k x y) (some st) = .nx (envW n (l ++ [100]) (h + 1) k (.val (.bl false)) (.val (.bl true))) (some st) := by
  have h2' : ¬ 0 < h := by omega
  unfold b_l_word_1
  simp [sSeq, sAsg, sIf, tAndD, tOrD, tNotD, tT, tB2, eOp2, eM1, eCallH, eN, eC, aCons, aNil, R.bind, R.then, SR.then, opt, truD, blD, vCmp, vEq, pl, D.eqv, vAdd, vI, countD, lim, gtN, h1, h2', hl2]
theorem word_o {n : Nat} {l : List Nat} {h : Int} {st : HS} (k x y : Sl) (hl2 : l.length + 1 ≤ 1000) (h1 : ¬ l.count 100 < n) : b_l_word_1 (envW n l h k x y) (some st) = .nx (envW n (l ++ [111]) (h - 1) k (.val (.bl (decide (0 < h)))) (.val (.bl false))) (some st) := by
  unfold b_l_word_1
  simp [sSeq, sAsg, sIf, tAndD, tOrD, tNotD, tT, tB2, eOp2, eM1, eCallH, eN, eC, aCons, aNil, R.bind, R.then, SR.then, opt, truD, blD, vCmp, vEq, pl, D.eqv, vAdd, vI, countD, lim, gtN, h1, hl2]
theorem word_c {n : Nat} {l : List Nat} {h d : Int} {st st' : HS} (k x y : Sl) (hl2 : l.length + 1 ≤ 1000) (h1 : l.count 100 < n) (h2 : 0 < h) (e : F_l_draw [.int 2] (some st) = .ok (.int d) (some st')) :
    b_l_word_1 (envW n l h k x y) (some st) = .nx (envW n (l ++ [if d = 0 then 100 else 111]) (if d = 0 then h + 1 else h - 1) k (.val (.bl true)) (.val (.bl true))) (some st') := by
  unfold b_l_word_1
  by_cases h3 : d = 0
  · subst h3
    simp [sSeq, sAsg, sIf, tAndD, tOrD, tNotD, tT, tB2, eOp2, eM1, eCallH, eN, eC, aCons, aNil, R.bind, R.then, SR.then, opt, truD, blD, vCmp, vEq, pl, D.eqv, vAdd, vI, countD, lim, gtN, e, h1, h2, hl2]
  · simp [sSeq, sAsg, sIf, tAndD, tOrD, tNotD, tT, tB2, eOp2, eM1, eCallH, eN, eC, aCons, aNil, R.bind, R.then, SR.then, opt, truD, blD, vCmp, vEq, pl, D.eqv, vAdd, vI, countD, lim, gtN, e, h1, h2, h3, hl2]
theorem body_word {n : Nat} {l : List Nat} {st : HS} (k x y : Sl) (hn : n ≤ 6) (p : Part l n) (hl : l.length < 2 * n) (hs : hsOk st = true) :
    ∃ c st' x' y', b_l_word_1 (envW n l ((l.count 100 : Int) - l.count 111) k x y) (some st) = .nx (envW n (l ++ [c]) (((l ++ [c]).count 100 : Nat) - ((l ++ [c]).count 111 : Nat) : Int) k x' y') (some st') ∧ Part (l ++ [c]) n ∧ hsOk st' = true := by
  have c2 := ltr_count p.ltr
  have c1 := p.cnt
  have le := p.le
  have hl3 : l.length + 1 ≤ 1000 := by omega
  have cd := cnt_d l
  have co := cnt_o l
  by_cases h1 : l.count 100 < n
  · by_cases h2 : (0 : Int) < (l.count 100 : Int) - l.count 111
    · obtain ⟨d, st', e, d0, d1, hs'⟩ := draw_ok hs (m := 2) (by decide) (by decide)
      have w := word_c k x y hl3 h1 h2 e
      by_cases h3 : d = 0
      · rw [if_pos h3, if_pos h3, ← cd] at w
        exact ⟨100, st', _, _, w, p.snoc (.inl ⟨rfl, h1⟩), hs'⟩
      · rw [if_neg h3, if_neg h3, ← co] at w
        exact ⟨111, st', _, _, w, p.snoc (.inr ⟨rfl, by omega⟩), hs'⟩
    · have w := word_d (st := st) k x y hl3 h1 (Int.not_lt.mp h2)
      rw [← cd] at w
      exact ⟨100, st, _, _, w, p.snoc (.inl ⟨rfl, h1⟩), hs⟩
  · have w := word_o (st := st) (h := (l.count 100 : Int) - l.count 111) k x y hl3 h1
    rw [← co] at w
    exact ⟨111, st, _, _, w, p.snoc (.inr ⟨rfl, by omega⟩), hs⟩
theorem loop_word {n : Nat} (hn : n ≤ 6) : ∀ (ds : List D) (l : List Nat) (st : HS) (k x y : Sl), Part l n → l.length + ds.length = 2 * n → hsOk st = true →
    ∃ l' st' k' x' y', loopD (gtN 4) b_l_word_1 ds (envW n l ((l.count 100 : Int) - l.count 111) k x y) (some st) = .nx (envW n l' ((l'.count 100 : Int) - l'.count 111) k' x' y') (some st') ∧ Good l' n ∧ hsOk st' = true
  | [], l, st, k, x, y, p, hl, hs => ⟨l, st, k, x, y, rfl, p.good (by simpa using hl), hs⟩
  | d :: ds, l, st, k, x, y, p, hl, hs => by
    rw [List.length_cons] at hl
    obtain ⟨c, st1, x1, y1, e, p1, hs1⟩ := body_word (.val d) x y hn p (by omega) hs
    obtain ⟨l', st', k', x', y', e2, g, hs'⟩ := loop_word hn ds (l ++ [c]) st1 (.val d) x1 y1 p1 (by rw [List.length_append, List.length_singleton]; omega) hs1
    refine ⟨l', st', k', x', y', ?_, g, hs'⟩
    rw [← e2]
    show (match b_l_word_1 (envW n l ((l.count 100 : Int) - l.count 111) (.val d) x y) (some st) with
      | .nx ρ2 s2 => loopD (gtN 4) b_l_word_1 ds ρ2 s2
      | .ct ρ2 s2 => loopD (gtN 4) b_l_word_1 ds ρ2 s2
      | .bk ρ2 s2 => .nx ρ2 s2
      | r => r) = _
    rw [e]
theorem rg1_ok {n : Nat} (hn : n ≤ 100) : rg1 [2 * (n : Int)] = some (rangeL 0 (2 * n)) := by
  have b : big (2 * (n : Int)) = true := by
    unfold big
    rw [Bool.and_eq_true]
    exact ⟨decide_eq_true (by omega), decide_eq_true (by omega)⟩
  have e : (2 * (n : Int)).toNat = 2 * n := by omega
  unfold rg1
  simp only [b, e, if_true]
theorem range_len (n : Nat) : (rangeL 0 n).length = n := by
  unfold rangeL
  rw [List.length_map, List.length_range]
theorem op2_ok {g : D → D → Option D} {fa fb : Ef} {ρ : En} {s s1 s2 : S} {x y d : D} (h1 : fa ρ s = .ok x s1) (h2 : fb ρ s1 = .ok y s2) (h3 : g x y = some d) : eOp2 g fa fb ρ s = .ok d s2 := by
  unfold eOp2
  rw [h1]
  show (fb ρ s1).bind _ = _
  rw [h2]
  show opt (g x y) s2 = _
  rw [h3]
  rfl
theorem cons_ok {fa : Ef} {fr : Af} {ρ : En} {s s1 s2 : S} {x : D} {xs : List D} (h1 : fa ρ s = .ok x s1) (h2 : fr ρ s1 = .ok xs s2) : aCons fa fr ρ s = .ok (x :: xs) s2 := by
  unfold aCons
  rw [h1]
  show (fr ρ s1).bind _ = _
  rw [h2]
  rfl
theorem range_ok {rg : List Int → Option (List D)} {fa : Af} {ρ : En} {s s1 : S} {ds es : List D} {is : List Int} (h1 : fa ρ s = .ok ds s1) (h2 : dInts ds = some is) (h3 : rg is = some es) : iRange rg fa ρ s = .ok es s1 := by
  unfold iRange
  rw [h1]
  show opt ((dInts ds).bind rg) s1 = _
  rw [h2]
  show opt (rg is) s1 = _
  rw [h3]
  rfl
theorem word_f1 {n : Nat} (st : S) (hn : n ≤ 6) : iRange rg1 (aCons (eOp2 (vI gMul) (eC (.int 2)) (eN 1)) aNil) [.hand, .val (.int n), .val (.str []), .val (.int 0), .no, .no, .no] st = .ok (rangeL 0 (2 * n)) st := by
  have g2 : vI gMul (.int 2) (.int (n : Int)) = some (.int (2 * (n : Int))) := by
    show (gMul 2 (n : Int)).map D.int = _
    rw [gMul2 n]
    rfl
  exact range_ok (cons_ok (op2_ok (x := .int 2) (y := .int n) (s1 := st) (s2 := st) rfl rfl g2) (xs := []) rfl) (is := [2 * (n : Int)]) rfl (rg1_ok (by omega))
theorem word_f0 (n : Int) (st : S) : F_l_word [.int n] st = resH (b_l_word [.hand, .val (.int n), .no, .no, .no, .no, .no] st) := by
  unfold F_l_word
  generalize b_l_word = g
  rfl
theorem word_f2 (n : Int) (st : S) : b_l_word [.hand, .val (.int n), .no, .no, .no, .no, .no] st = sSeq (sFor (iRange rg1 (aCons (eOp2 (vI gMul) (eC (.int 2)) (eN 1)) aNil)) (gtN 4) b_l_word_1) (sRet (eN 2)) [.hand, .val (.int n), .val (.str []), .val (.int 0), .no, .no, .no] st := by
  unfold b_l_word
  rw [seq_asg (d := .str []) (s1 := st) rfl, seq_asg (d := .int 0) (s1 := st) rfl]
  rfl
/-- a word is drawn -/
theorem word_ok {n : Nat} {st : HS} (hn : n ≤ 6) (hs : hsOk st = true) : ∃ l st', F_l_word [.int n] (some st) = .ok (.str l) (some st') ∧ Good l n ∧ hsOk st' = true := by
  obtain ⟨l, st', k', x', y', e, g, hs'⟩ := loop_word hn (rangeL 0 (2 * n)) [] st .no .no .no (Part.nil n) (by rw [range_len, List.length_nil, Nat.zero_add]) hs
  refine ⟨l, st', ?_, g, hs'⟩
  have z : (((List.count 100 ([] : List Nat) : Nat) : Int) - ((List.count 111 ([] : List Nat) : Nat) : Int)) = 0 := rfl
  rw [z] at e
  have f1 := word_f1 (some st) hn
  rw [word_f0, word_f2]
  generalize iRange rg1 (aCons (eOp2 (vI gMul) (eC (.int 2)) (eN 1)) aNil) = it at f1 ⊢
  rw [seq_for f1 e, ret_of (d := .str l) (s1 := some st') rfl]
  rfl
end Vv
namespace Vv
theorem sl_ok {f : Ef} {fl fh : Of} {ρ : En} {s s1 s2 s3 : S} {x d : D} {l h : Option Int} (h1 : f ρ s = .ok x s1) (h2 : fl ρ s1 = .ok l s2) (h3 : fh ρ s2 = .ok h s3) (h4 : vSl x l h = some d) : eSl f fl fh ρ s = .ok d s3 := by
  unfold eSl
  rw [h1]
  show (fl ρ s1).bind _ = _
  rw [h2]
  show (fh ρ s2).bind _ = _
  rw [h3]
  show opt (vSl x l h) s3 = _
  rw [h4]
  rfl
theorem some_ok {f : Ef} {ρ : En} {s s1 : S} {i : Int} (h1 : f ρ s = .ok (.int i) s1) : oSome f ρ s = .ok (some i) s1 := by
  unfold oSome
  rw [h1]
  rfl
theorem callH_ok {i m : Nat} {F : List D → S → R D} {fa : Af} {ρ : En} {s s1 s2 : S} {ds : List D} {d : D} (h0 : (ρ[i]? : Option Sl) = some .hand) (h1 : fa ρ s = .ok ds s1) (hl : ds.length = m) (h2 : F ds s1 = .ok d s2) : eCallH i m F fa ρ s = .ok d s2 := by
  unfold eCallH
  rw [h0]
  show (fa ρ s).bind _ = _
  rw [h1]
  show (if ds.length = m then F ds s1 else .bad) = _
  rw [if_pos hl, h2]
theorem b2_ok {f : Ef} {ρ : En} {s s1 : S} {b : Bool} (h1 : f ρ s = .ok (.bl b) s1) : tB2 f ρ s = .ok b s1 := by
  unfold tB2
  rw [h1]
  rfl
theorem seq_if {c : Tf} {a b g : Sf} {ρ ρ' : En} {s s1 s' : S} {k : Bool} (h1 : c ρ s = .ok k s1) (h2 : (if k then a ρ s1 else b ρ s1) = .nx ρ' s') : sSeq (sIf c a b) g ρ s = g ρ' s' := by
  unfold sSeq sIf
  rw [h1]
  show (if k then a ρ s1 else b ρ s1).then g = _
  rw [h2]
  rfl
theorem seq_ifR {c : Tf} {a b g : Sf} {ρ : En} {s s1 s' : S} {k : Bool} {d : D} (h1 : c ρ s = .ok k s1) (h2 : (if k then a ρ s1 else b ρ s1) = .rt d s') : sSeq (sIf c a b) g ρ s = .rt d s' := by
  unfold sSeq sIf
  rw [h1]
  show (if k then a ρ s1 else b ρ s1).then g = _
  rw [h2]
  rfl
/-- what turns two letters at t - 1 and t -/
def turnOk (l : List Nat) (t : Nat) : Bool := match vIx (.str l) (.int ((t : Int) - 1)), vIx (.str l) (.int t), vSl (.str l) none (some ((t : Int) - 1)), vSl (.str l) (some ((t : Int) + 1)) none with
  | some (.str [a]), some (.str [b]), some (.str p), some (.str q) => (p ++ [b] ++ [a] ++ q).length == l.length && ((p ++ [b] ++ [a] ++ q).count 100 == l.count 100 && (p ++ [b] ++ [a] ++ q).all fun c => c == 100 || c == 111)
  | _, _, _, _ => false
theorem turn_all : allWords.all (fun l => (List.range l.length).all fun t => t == 0 || turnOk l t) = true := by decide +kernel
theorem turn_of {l : List Nat} {n t : Nat} (g : Good l n) (h1 : 1 ≤ n) (h6 : n ≤ 6) (ht : 1 ≤ t) (htl : t < l.length) : ∃ a b p q, vIx (.str l) (.int ((t : Int) - 1)) = some (.str [a]) ∧ vIx (.str l) (.int t) = some (.str [b]) ∧ vSl (.str l) none (some ((t : Int) - 1)) = some (.str p) ∧ vSl (.str l) (some ((t : Int) + 1)) none = some (.str q) ∧
    (p ++ [b] ++ [a] ++ q).length = l.length ∧ (p ++ [b] ++ [a] ++ q).count 100 = l.count 100 ∧ ∀ c ∈ p ++ [b] ++ [a] ++ q, c = 100 ∨ c = 111 := by
  have h := Good.by g h1 h6 _ turn_all
  have h2 := List.all_eq_true.mp h t (List.mem_range.mpr htl)
  rw [Bool.or_eq_true] at h2
  have h3 := h2.resolve_left (fun z => by have := eq_of_beq z; omega)
  unfold turnOk at h3
  split at h3
  · rename_i a b p q e1 e2 e3 e4
    rw [Bool.and_eq_true, Bool.and_eq_true, beq_iff_eq, beq_iff_eq, List.all_eq_true] at h3
    refine ⟨a, b, p, q, e1, e2, e3, e4, h3.1, h3.2.1, fun c hc => ?_⟩
    have := h3.2.2 c hc
    rw [Bool.or_eq_true, beq_iff_eq, beq_iff_eq] at this
    exact this
  · cases h3
end Vv
namespace Vv
abbrev envN (l : List Nat) (t : Int) (u : List Nat) (h : Int) (x : Sl) : En := [.hand, .val (.str l), .val (.int t), .val (.str u), .val (.int h), x]
theorem near_body (l u : List Nat) (t h : Int) (c : Nat) (s : S) (hc2 : c = 100 ∨ c = 111) : b_l_near_1 (envN l t u h (.val (.str [c]))) s = if h + (if c = 100 then 1 else -1) < 0 then .rt (.str l) s else .nx (envN l t u (h + (if c = 100 then 1 else -1)) (.val (.str [c]))) s := by
  unfold b_l_near_1
  rcases hc2 with rfl | rfl
  · by_cases h2 : h + 1 < 0 <;> simp [sSeq, sAsg, sIf, sRet, sNil, tB2, eIf, eOp1, eOp2, eN, eC, R.bind, R.then, SR.then, opt, blD, vCmp, vEq, pl, D.eqv, vAdd, negD, gtN, h2]
  · by_cases h2 : h + -1 < 0 <;> simp [sSeq, sAsg, sIf, sRet, sNil, tB2, eIf, eOp1, eOp2, eN, eC, R.bind, R.then, SR.then, opt, blD, vCmp, vEq, pl, D.eqv, vAdd, negD, gtN, h2]
theorem near_loop (l u : List Nat) (t : Int) (s : S) : ∀ (R P : List Nat) (x : Sl), Part P 1000 → (∀ c ∈ R, c = 100 ∨ c = 111) → P.length + R.length < 1000 →
    loopD (gtN 5) b_l_near_1 (R.map fun c => .str [c]) (envN l t u ((P.count 100 : Int) - P.count 111) x) s = .rt (.str l) s ∨
    (Part (P ++ R) 1000 ∧ ∃ h' x', loopD (gtN 5) b_l_near_1 (R.map fun c => .str [c]) (envN l t u ((P.count 100 : Int) - P.count 111) x) s = .nx (envN l t u h' x') s)
  | [], P, x, p, _, _ => .inr ⟨by rw [List.append_nil]; exact p, _, x, rfl⟩
  | c :: R, P, x, p, hR, hl => by
    have e := near_body l u t ((P.count 100 : Int) - P.count 111) c s (hR c List.mem_cons_self)
    have st : loopD (gtN 5) b_l_near_1 ((c :: R).map fun c => .str [c]) (envN l t u ((P.count 100 : Int) - P.count 111) x) s = (match b_l_near_1 (envN l t u ((P.count 100 : Int) - P.count 111) (.val (.str [c]))) s with
      | .nx ρ2 s2 => loopD (gtN 5) b_l_near_1 (R.map fun c => .str [c]) ρ2 s2
      | .ct ρ2 s2 => loopD (gtN 5) b_l_near_1 (R.map fun c => .str [c]) ρ2 s2
      | .bk ρ2 s2 => .nx ρ2 s2
      | r => r) := rfl
    rw [st, e]
    have c2 := ltr_count p.ltr
    rw [List.length_cons] at hl
    have le := p.le
    by_cases h0 : (P.count 100 : Int) - P.count 111 + (if c = 100 then 1 else -1) < 0
    · rw [if_pos h0]
      exact .inl rfl
    · rw [if_neg h0]
      have p1 : Part (P ++ [c]) 1000 := by
        rcases hR c List.mem_cons_self with rfl | rfl
        · exact p.snoc (.inl ⟨rfl, by omega⟩)
        · exact p.snoc (.inr ⟨rfl, by rw [if_neg (by decide)] at h0; omega⟩)
      have hh : (P.count 100 : Int) - P.count 111 + (if c = 100 then 1 else -1) = (((P ++ [c]).count 100 : Nat) : Int) - ((P ++ [c]).count 111 : Nat) := by
        rcases hR c List.mem_cons_self with rfl | rfl
        · rw [cnt_d, if_pos rfl]
        · rw [cnt_o, if_neg (by decide)]
          omega
      rw [hh]
      have ih := near_loop l u t s R (P ++ [c]) (.val (.str [c])) p1 (fun z hz => hR z (List.mem_cons_of_mem _ hz)) (by rw [List.length_append, List.length_singleton]; omega)
      rw [show P ++ c :: R = (P ++ [c]) ++ R by simp]
      exact ih
theorem opN_ok {g : List D → Option D} {fa : Af} {ρ : En} {s s1 : S} {ds : List D} {d : D} (h1 : fa ρ s = .ok ds s1) (h2 : g ds = some d) : eOpN g fa ρ s = .ok d s1 := by
  unfold eOpN
  rw [h1]
  show opt (g ds) s1 = _
  rw [h2]
  rfl
theorem eq_strs {a b : Nat} (ha : a = 100 ∨ a = 111) (hb : b = 100 ∨ b = 111) : vEq (.str [a]) (.str [b]) = some (.bl (a == b)) := by
  rcases ha with rfl | rfl <;> rcases hb with rfl | rfl <;> rfl
theorem add_strs {a b : List Nat} (h : a.length + b.length ≤ 1000) : vAdd (.str a) (.str b) = some (.str (a ++ b)) := by
  simp [vAdd, lim, h]
/-- a word near another -/
theorem near_ok {l : List Nat} {n : Nat} {st : HS} (g : Good l n) (h1 : 1 ≤ n) (h6 : n ≤ 6) (hs : hsOk st = true) : ∃ l' st', F_l_near [.str l] (some st) = .ok (.str l') (some st') ∧ Good l' n ∧ hsOk st' = true := by
  have gl := g.len
  obtain ⟨d, st', e, d0, d1, hs'⟩ := draw_ok hs (m := (l.length : Int) - 1) (by omega) (by omega)
  obtain ⟨k, rfl⟩ : ∃ k : Nat, d = k := ⟨d.toNat, by omega⟩
  obtain ⟨a, b, p, q, e1, e2, e3, e4, ul, uc, ut⟩ := turn_of (t := 1 + k) g h1 h6 (by omega) (by omega)
  have la : a = 100 ∨ a = 111 := ut a (by simp)
  have lb : b = 100 ∨ b = 111 := ut b (by simp)
  have tk : ((1 + k : Nat) : Int) = 1 + (k : Int) := by omega
  rw [tk] at e1 e2 e3 e4
  have f0 : F_l_near [.str l] (some st) = resH (b_l_near [.hand, .val (.str l), .no, .no, .no, .no] (some st)) := by
    unfold F_l_near
    generalize b_l_near = z
    rfl
  have ln : g1 lenV [.str l] = some (.int (l.length : Nat)) := by
    have hl : l.length ≤ 1000 := by omega
    simp [g1, lenV, lenD, lim, hl]
  have a1 : eOp2 vAdd (eC (.int 1)) (eCallH 0 1 F_l_draw (aCons (eOp2 vSub (eOpN (g1 lenV) (aCons (eN 1) aNil)) (eC (.int 1))) aNil)) [.hand, .val (.str l), .no, .no, .no, .no] (some st) = .ok (.int (1 + (k : Int))) (some st') := by
    refine op2_ok (x := .int 1) (y := .int k) rfl (callH_ok rfl (cons_ok (op2_ok (x := .int l.length) (y := .int 1) (d := .int ((l.length : Int) - 1)) (s1 := some st) (s2 := some st) (opN_ok (ds := [.str l]) rfl ln) rfl rfl) (xs := []) rfl) rfl e) rfl
  have b1 : eOp2 vIx (eN 1) (eOp2 vSub (eN 2) (eC (.int 1))) [.hand, .val (.str l), .val (.int (1 + (k : Int))), .no, .no, .no] (some st') = .ok (.str [a]) (some st') := op2_ok (x := .str l) (s1 := some st') rfl (op2_ok (x := .int (1 + (k : Int))) (y := .int 1) (s1 := some st') (s2 := some st') rfl rfl rfl) e1
  have b2 : eOp2 vIx (eN 1) (eN 2) [.hand, .val (.str l), .val (.int (1 + (k : Int))), .no, .no, .no] (some st') = .ok (.str [b]) (some st') := op2_ok (x := .str l) (y := .int (1 + (k : Int))) (s1 := some st') rfl rfl e2
  rw [f0]
  unfold b_l_near
  rw [seq_asg a1]
  simp only [List.set_cons_succ, List.set_cons_zero]
  by_cases hab : a = b
  · refine ⟨l, st', ?_, g, hs'⟩
    rw [seq_ifR (k := true) (b2_ok (op2_ok b1 b2 (by rw [eq_strs la lb, hab, beq_self_eq_true]))) (d := .str l) (s' := some st') rfl]
    rfl
  · have lens : p.length + 1 + 1 + q.length = l.length := by
      rw [← ul]
      simp
      omega
    have u1 : vAdd (.str p) (.str [b]) = some (.str (p ++ [b])) := add_strs (by rw [List.length_singleton]; omega)
    have u2 : vAdd (.str (p ++ [b])) (.str [a]) = some (.str (p ++ [b] ++ [a])) := add_strs (by rw [List.length_append, List.length_singleton, List.length_singleton]; omega)
    have u3 : vAdd (.str (p ++ [b] ++ [a])) (.str q) = some (.str (p ++ [b] ++ [a] ++ q)) := add_strs (by rw [List.length_append, List.length_append, List.length_singleton, List.length_singleton]; omega)
    rw [seq_if (a := sRet (eN 1)) (b := sNil) (k := false) (b2_ok (op2_ok b1 b2 (by rw [eq_strs la lb, beq_eq_false_iff_ne.mpr hab]))) (ρ' := _) (s' := some st') rfl]
    have c1 : eOp2 vAdd (eOp2 vAdd (eOp2 vAdd (eSl (eN 1) oNone (oSome (eOp2 vSub (eN 2) (eC (.int 1))))) (eOp2 vIx (eN 1) (eN 2))) (eOp2 vIx (eN 1) (eOp2 vSub (eN 2) (eC (.int 1))))) (eSl (eN 1) (oSome (eOp2 vAdd (eN 2) (eC (.int 1)))) oNone) [.hand, .val (.str l), .val (.int (1 + (k : Int))), .no, .no, .no] (some st') = .ok (.str (p ++ [b] ++ [a] ++ q)) (some st') :=
      op2_ok (op2_ok (op2_ok (sl_ok (x := .str l) (l := none) (s1 := some st') (s2 := some st') rfl rfl (some_ok (op2_ok (x := .int (1 + (k : Int))) (y := .int 1) (d := .int (1 + (k : Int) - 1)) (s1 := some st') (s2 := some st') rfl rfl rfl)) e3) b2 u1) b1 u2)
        (sl_ok (x := .str l) (h := none) (s1 := some st') rfl (some_ok (op2_ok (x := .int (1 + (k : Int))) (y := .int 1) (d := .int (1 + (k : Int) + 1)) (s1 := some st') (s2 := some st') rfl rfl rfl)) rfl e4) u3
    rw [seq_asg c1]
    simp only [List.set_cons_succ, List.set_cons_zero]
    rw [seq_asg (d := .int 0) (s1 := some st') rfl]
    simp only [List.set_cons_succ, List.set_cons_zero]
    generalize hu : p ++ [b] ++ [a] ++ q = u at ul uc ut
    have it : iIt (eN 3) [.hand, .val (.str l), .val (.int (1 + (k : Int))), .val (.str u), .val (.int 0), .no] (some st') = .ok (u.map fun c => .str [c]) (some st') := rfl
    have z : (((List.count 100 ([] : List Nat) : Nat) : Int) - ((List.count 111 ([] : List Nat) : Nat) : Int)) = 0 := rfl
    rcases near_loop l u (1 + (k : Int)) (some st') u [] .no (Part.nil 1000) ut (by rw [List.length_nil]; omega) with h | ⟨pp, h', x', h⟩
    · refine ⟨l, st', ?_, g, hs'⟩
      rw [z] at h
      have w : sSeq (sFor (iIt (eN 3)) (gtN 5) b_l_near_1) (sRet (eN 3)) [.hand, .val (.str l), .val (.int (1 + (k : Int))), .val (.str u), .val (.int 0), .no] (some st') = .rt (.str l) (some st') := by
        unfold sSeq sFor
        rw [it]
        show (loopD (gtN 5) b_l_near_1 (u.map fun c => .str [c]) (envN l (1 + (k : Int)) u 0 .no) (some st')).then _ = _
        rw [h]
        rfl
      rw [w]
      rfl
    · rw [z] at h
      rw [List.nil_append] at pp
      refine ⟨u, st', ?_, ⟨by rw [ul, gl], by rw [uc, g.cnt], ut, pp.ahead⟩, hs'⟩
      rw [seq_for it h, ret_of (d := .str u) (s1 := some st') rfl]
      rfl
end Vv
namespace Vv
theorem u_ok {f : Ef} {ρ : En} {s s1 : S} {d : D} (no : noOb ρ = true) (h : f (ρ.map frzS) s = .ok d s1) (a : atomD d = true) : eU f ρ s = .ok d s1 := by
  unfold eU
  rw [no, h]
  show (if atomD d then R.ok d s1 else .bad) = _
  rw [a]
  rfl
theorem app_ok {i : Nat} {f : Ef} {ρ : En} {s s1 : S} {ds : List D} {d : D} (h0 : (ρ[i]? : Option Sl) = some (.own ds)) (h : f ρ s = .ok d s1) (hl : ds.length ≤ 100000) : sApp i f ρ s = .nx (ρ.set i (.own (ds ++ [d]))) s1 := by
  unfold sApp
  rw [h0]
  show (f ρ s).then ρ _ = _
  rw [h]
  show (if fit ds.length then _ else _) = _
  rw [show fit ds.length = true from decide_eq_true hl]
  rfl
theorem if_ok {c : Tf} {a b : Sf} {ρ : En} {s s1 : S} {k : Bool} (h1 : c ρ s = .ok k s1) : sIf c a b ρ s = if k then a ρ s1 else b ρ s1 := by
  unfold sIf
  rw [h1]
  rfl
theorem eq_ints (a b : Int) : vEq (.int a) (.int b) = some (.bl (a == b)) := rfl
abbrev envX (n w : Nat) (W : List (List Nat)) (k : Sl) (x : Sl) : En := [.hand, .val (.int n), .val (.int w), .own (W.map .str), k, x]
theorem body_words {n w : Nat} {W : List (List Nat)} {st : HS} (x : Sl) (h1 : 1 ≤ n) (h6 : n ≤ 6) (hW : 1 ≤ W.length) (h12 : W.length ≤ 1000) (gW : ∀ l ∈ W, Good l n) (hs : hsOk st = true) :
    ∃ l st' x', b_l_words_1 (envX n w W (.val (.int (W.length : Nat))) x) (some st) = .nx (envX n w (W ++ [l]) (.val (.int (W.length : Nat))) x') (some st') ∧ Good l n ∧ hsOk st' = true := by
  obtain ⟨d, st1, e, d0, d1, hs1⟩ := draw_ok hs (m := 4) (by decide) (by decide)
  have a1 : eCallH 0 1 F_l_draw (aCons (eC (.int 4)) aNil) (envX n w W (.val (.int (W.length : Nat))) x) (some st) = .ok (.int d) (some st1) := callH_ok rfl (ds := [.int 4]) (s1 := some st) rfl rfl e
  have i1 : (W.length : Int) - 1 = ((W.length - 1 : Nat) : Int) := by omega
  obtain ⟨l0, hl0⟩ : ∃ l0, W[W.length - 1]? = some l0 := ⟨_, List.getElem?_eq_getElem (by omega)⟩
  have g0 := gW l0 (List.mem_of_getElem? hl0)
  have ix : vIx (.lst (W.map D.str)) (.int ((W.length : Int) - 1)) = some (.str l0) := by
    show atI (W.map D.str) ((W.length : Int) - 1) = _
    rw [i1]
    exact atI_nat (by rw [List.getElem?_map, hl0]; rfl)
  have fl : (W.map D.str).length ≤ 100000 := by rw [List.length_map]; omega
  have ap : ∀ l : List Nat, W.map D.str ++ [.str l] = (W ++ [l]).map D.str := fun l => by rw [List.map_append]; rfl
  unfold b_l_words_1
  rw [seq_asg a1]
  simp only [List.set_cons_succ, List.set_cons_zero]
  rw [if_ok (b2_ok (op2_ok (x := .int d) (y := .int 0) (s1 := some st1) (s2 := some st1) rfl rfl (eq_ints d 0)))]
  by_cases q0 : d = 0
  · rw [show (d == 0) = true by rw [q0]; rfl, if_pos rfl]
    obtain ⟨l, st2, e2, g, hs2⟩ := word_ok h6 hs1
    refine ⟨l, st2, .val (.int d), ?_, g, hs2⟩
    have c1 : eCallH 0 1 F_l_word (aCons (eN 1) aNil) [.hand, .val (.int n), .val (.int w), .own (W.map D.str), .val (.int (W.length : Nat)), .val (.int d)] (some st1) = .ok (.str l) (some st2) := callH_ok rfl (ds := [.int n]) (s1 := some st1) rfl rfl e2
    rw [app_ok (ds := W.map D.str) (d := .str l) (s1 := some st2) rfl c1 fl]
    simp only [List.set_cons_succ, List.set_cons_zero, ap]
  · rw [show (d == 0) = false from beq_eq_false_iff_ne.mpr q0, if_neg Bool.false_ne_true]
    rw [if_ok (b2_ok (op2_ok (x := .int d) (y := .int 1) (s1 := some st1) (s2 := some st1) rfl rfl (eq_ints d 1)))]
    have f1 : eOp2 vIx (eN 3) (eOp2 vSub (eN 4) (eC (.int 1))) [.hand, .val (.int n), .val (.int w), .val (.lst (W.map D.str)), .val (.int (W.length : Nat)), .val (.int d)] (some st1) = .ok (.str l0) (some st1) :=
      op2_ok (x := .lst (W.map D.str)) (s1 := some st1) rfl (op2_ok (x := .int (W.length : Nat)) (y := .int 1) (s1 := some st1) (s2 := some st1) rfl rfl rfl) ix
    by_cases q1 : d = 1
    · rw [show (d == 1) = true by rw [q1]; rfl, if_pos rfl]
      refine ⟨l0, st1, .val (.int d), ?_, g0, hs1⟩
      rw [app_ok (ds := W.map D.str) (d := .str l0) (s1 := some st1) rfl (u_ok rfl f1 rfl) fl]
      simp only [List.set_cons_succ, List.set_cons_zero, ap]
    · rw [show (d == 1) = false from beq_eq_false_iff_ne.mpr q1, if_neg Bool.false_ne_true]
      obtain ⟨l, st2, e2, g, hs2⟩ := near_ok g0 h1 h6 hs1
      refine ⟨l, st2, .val (.int d), ?_, g, hs2⟩
      have c1 : eCallH 0 1 F_l_near (aCons (eOp2 vIx (eN 3) (eOp2 vSub (eN 4) (eC (.int 1)))) aNil) [.hand, .val (.int n), .val (.int w), .val (.lst (W.map D.str)), .val (.int (W.length : Nat)), .val (.int d)] (some st1) = .ok (.str l) (some st2) := callH_ok rfl (cons_ok f1 (xs := []) rfl) rfl e2
      rw [app_ok (ds := W.map D.str) (d := .str l) (s1 := some st2) rfl (u_ok rfl c1 rfl) fl]
      simp only [List.set_cons_succ, List.set_cons_zero, ap]
theorem loop_words {n w : Nat} (h1 : 1 ≤ n) (h6 : n ≤ 6) : ∀ (m : Nat) (W : List (List Nat)) (st : HS) (k x : Sl), 1 ≤ W.length → W.length + m ≤ 1000 → (∀ l ∈ W, Good l n) → hsOk st = true →
    ∃ (W' : List (List Nat)) (st' : HS) (k' x' : Sl), loopD (gtN 4) b_l_words_1 ((List.range' W.length m).map fun i => .int (i : Nat)) (envX n w W k x) (some st) = .nx (envX n w W' k' x') (some st') ∧ W'.length = W.length + m ∧ (∀ l ∈ W', Good l n) ∧ hsOk st' = true
  | 0, W, st, k, x, _, _, gW, hs => ⟨W, st, k, x, rfl, rfl, gW, hs⟩
  | m + 1, W, st, k, x, hW, hl, gW, hs => by
    obtain ⟨l, st1, x1, e, g, hs1⟩ := body_words (w := w) x h1 h6 hW (by omega) gW hs
    have len : (W ++ [l]).length = W.length + 1 := by rw [List.length_append]; rfl
    obtain ⟨W', st', k', x', e2, l2, g2, hs2⟩ := loop_words h1 h6 m (W ++ [l]) st1 (.val (.int (W.length : Nat))) x1 (by omega) (by omega) (fun z hz => by
      rcases List.mem_append.mp hz with q | q
      · exact gW z q
      · rw [List.mem_singleton.mp q]; exact g) hs1
    rw [len] at e2
    refine ⟨W', st', k', x', ?_, by omega, g2, hs2⟩
    rw [List.range'_succ, List.map_cons, ← e2]
    show (match b_l_words_1 (envX n w W (.val (.int (W.length : Nat))) x) (some st) with
      | .nx ρ2 s2 => loopD (gtN 4) b_l_words_1 ((List.range' (W.length + 1) m).map fun i => .int (i : Nat)) ρ2 s2
      | .ct ρ2 s2 => loopD (gtN 4) b_l_words_1 ((List.range' (W.length + 1) m).map fun i => .int (i : Nat)) ρ2 s2
      | .bk ρ2 s2 => .nx ρ2 s2
      | r => r) = _
    rw [e]
theorem rangeL_one (w : Nat) : rangeL 1 w = (List.range' 1 w).map fun i => .int (i : Nat) := by
  unfold rangeL
  rw [List.range_eq_range', List.range'_eq_map_range (s := 1), List.map_map, ← List.range_eq_range']
  refine List.map_congr_left fun i _ => ?_
  show D.int (1 + (i : Int)) = D.int ((1 + i : Nat) : Int)
  rw [show (1 + (i : Int)) = ((1 + i : Nat) : Int) by omega]
theorem seq_own {i : Nat} {f : Lf} {g : Sf} {ρ : En} {s s1 : S} {ds : List D} (h : f ρ s = .ok ds s1) : sSeq (sOwn i f) g ρ s = g (ρ.set i (.own ds)) s1 := by
  unfold sSeq sOwn
  rw [h]
  rfl
theorem words_end (n w : Int) (q : List D) (k x : Sl) (s : S) : resH (sFrz 3 (sRet (eN 3)) [.hand, .val (.int n), .val (.int w), .own q, k, x] s) = .ok (.lst q) s := rfl
/-- words are drawn -/
theorem words_ok {n w : Nat} {st : HS} (h1 : 1 ≤ n) (h6 : n ≤ 6) (hw : 1 ≤ w) (hw2 : w ≤ 100) (hs : hsOk st = true) :
    ∃ (W : List (List Nat)) (st' : HS), F_l_words [.int n, .int w] (some st) = .ok (.lst (W.map .str)) (some st') ∧ W.length = w ∧ (∀ l ∈ W, Good l n) ∧ hsOk st' = true := by
  obtain ⟨l, st1, e1, g1, hs1⟩ := word_ok h6 hs
  obtain ⟨W, st', k', x', e2, l2, g2, hs2⟩ := loop_words (w := w) h1 h6 (w - 1) [l] st1 .no .no (Nat.le_refl 1) (by show 1 + (w - 1) ≤ 1000; omega) (fun z hz => by rw [List.mem_singleton.mp hz]; exact g1) hs1
  refine ⟨W, st', ?_, by rw [l2]; show 1 + (w - 1) = w; omega, g2, hs2⟩
  rw [show [l].length = 1 from rfl] at e2
  have c1 : eCallH 0 1 F_l_word (aCons (eN 1) aNil) [.hand, .val (.int n), .val (.int w), .no, .no, .no] (some st) = .ok (.str l) (some st1) := callH_ok rfl (ds := [.int n]) (s1 := some st) rfl rfl e1
  have c2 : ((aCons (eCallH 0 1 F_l_word (aCons (eN 1) aNil)) aNil) [.hand, .val (.int n), .val (.int w), .no, .no, .no] (some st)).bind (fun ds s1 => opt (fitL ds) s1) = .ok ([l].map D.str) (some st1) := by
    rw [cons_ok c1 (xs := []) rfl]
    rfl
  have r2 : rg2 [1, (w : Int)] = some (rangeL 1 (w - 1)) := by
    have b1 : big 1 = true := by decide
    have b2 : big (w : Int) = true := by
      unfold big
      rw [Bool.and_eq_true]
      exact ⟨decide_eq_true (by omega), decide_eq_true (by omega)⟩
    have e : ((w : Int) - 1).toNat = w - 1 := by omega
    unfold rg2
    simp only [b1, b2, e, Bool.and_self, if_true]
  have c3 : iRange rg2 (aCons (eC (.int 1)) (aCons (eN 2) aNil)) [.hand, .val (.int n), .val (.int w), .own ([l].map D.str), .no, .no] (some st1) = .ok ((List.range' 1 (w - 1)).map fun i => .int (i : Nat)) (some st1) := by
    rw [← rangeL_one]
    exact range_ok (ds := [.int 1, .int w]) (is := [1, (w : Int)]) rfl rfl r2
  have f0 : F_l_words [.int n, .int w] (some st) = resH (b_l_words [.hand, .val (.int n), .val (.int w), .no, .no, .no] (some st)) := by
    unfold F_l_words
    generalize b_l_words = z
    rfl
  rw [f0]
  unfold b_l_words
  rw [seq_own (f := fun ρ s => ((aCons (eCallH 0 1 F_l_word (aCons (eN 1) aNil)) aNil) ρ s).bind fun ds s1 => opt (fitL ds) s1) (ρ := [.hand, .val (.int n), .val (.int w), .no, .no, .no]) (s := some st) c2]
  simp only [List.set_cons_succ, List.set_cons_zero]
  rw [seq_for c3 e2]
  exact words_end n w (W.map D.str) k' x' (some st')
end Vv
namespace Vv
mutual
def D.beq : D → D → Bool
  | .non, .non => true
  | .bl a, .bl b => a == b
  | .int a, .int b => decide (a = b)
  | .str a, .str b => decide (a = b)
  | .ty a, .ty b => decide (a = b)
  | .cl a, .cl b => decide (a = b)
  | .tup a, .tup b => D.beqs a b
  | .lst a, .lst b => D.beqs a b
  | .obj c a, .obj e b => decide (c = e) && D.beqs a b
  | _, _ => false
def D.beqs : List D → List D → Bool
  | [], [] => true
  | a :: x, b :: y => D.beq a b && D.beqs x y
  | _, _ => false
end
mutual
theorem D.beq_eq : ∀ a b : D, D.beq a b = true → a = b
  | .non, b, h => by cases b <;> simp_all [D.beq]
  | .bl _, b, h => by cases b <;> simp_all [D.beq]
  | .int _, b, h => by cases b <;> simp_all [D.beq]
  | .str _, b, h => by cases b <;> simp_all [D.beq]
  | .ty _, b, h => by cases b <;> simp_all [D.beq]
  | .cl _, b, h => by cases b <;> simp_all [D.beq]
  | .tup x, b, h => by
    cases b <;> simp only [D.beq] at h <;> try cases h
    rw [D.beqs_eq x _ h]
  | .lst x, b, h => by
    cases b <;> simp only [D.beq] at h <;> try cases h
    rw [D.beqs_eq x _ h]
  | .obj c x, b, h => by
    cases b <;> simp only [D.beq] at h <;> try cases h
    obtain ⟨h1, h2⟩ := Bool.and_eq_true_iff.mp h
    rw [D.beqs_eq x _ h2, of_decide_eq_true h1]
  | .dic _ _, b, h => by cases b <;> simp_all [D.beq]
  | .set _, b, h => by cases b <;> simp_all [D.beq]
theorem D.beqs_eq : ∀ a b : List D, D.beqs a b = true → a = b
  | [], [], _ => rfl
  | [], _ :: _, h => by simp [D.beqs] at h
  | _ :: _, [], h => by simp [D.beqs] at h
  | a :: x, b :: y, h => by
    simp only [D.beqs, Bool.and_eq_true] at h
    rw [D.beq_eq a b h.1, D.beqs_eq x y h.2]
end
def okIs (r : R D) (d : D) : Bool := match r with
  | .ok x none => D.beq x d
  | _ => false
theorem okIs_eq {r : R D} {d : D} (h : okIs r d = true) : r = .ok d none := by
  unfold okIs at h
  split at h
  · rw [D.beq_eq _ _ h]
  · cases h
end Vv
namespace Vv
theorem call_ok {m : Nat} {F : List D → R D} {fa : Af} {ρ : En} {s s1 t : S} {ds : List D} {d : D} (h1 : fa ρ s = .ok ds s1) (hl : ds.length = m) (h2 : F ds = .ok d t) : eCall m F fa ρ s = .ok d s1 := by
  unfold eCall
  rw [h1]
  show (if ds.length = m then pickP F ds s1 else .bad) = _
  rw [if_pos hl]
  unfold pickP
  rw [h2]
theorem lc_ok {is : List Nat} {fi : Af} {gt : D → En → Option En} {ft : Tf} {fe : Ef} {ρ : En} {s s1 s2 : S} {ds r : List D} (p : is.all (plainAt ρ) = true) (h1 : fi ρ s = .ok ds s1) (h2 : lcD gt ft fe (wipeE ρ is) ds [] s1 = .ok r s2) : lLc is fi gt ft fe ρ s = .ok r s2 := by
  unfold lLc
  rw [if_pos p, h1]
  exact h2
theorem of_ok {f : Lf} {ρ : En} {s s1 : S} {ds : List D} (h : f ρ s = .ok ds s1) : eOf f ρ s = .ok (.lst ds) s1 := by
  unfold eOf
  rw [h]
  rfl
end Vv
namespace Vv
theorem un_ok {g : D → Option D} {fa : Ef} {ρ : En} {s s1 : S} {x d : D} (h1 : fa ρ s = .ok x s1) (h2 : g x = some d) : eOp1 g fa ρ s = .ok d s1 := by
  unfold eOp1
  rw [h1]
  show opt (g x) s1 = _
  rw [h2]
  rfl
theorem and_ok {f g : Tf} {ρ : En} {s s1 s2 : S} {a b : Bool} (h1 : f ρ s = .ok a s1) (h2 : g ρ s1 = .ok b s2) (h3 : a = true ∨ s2 = s1) : tAndD f g ρ s = .ok (a && b) s2 := by
  unfold tAndD
  rw [h1]
  show (if a then g ρ s1 else .ok false s1) = _
  cases a with
  | true => exact h2
  | false => rw [h3.resolve_left (by decide)]; rfl
theorem or_ok {f g : Tf} {ρ : En} {s s1 s2 : S} {a b : Bool} (h1 : f ρ s = .ok a s1) (h2 : g ρ s1 = .ok b s2) (h3 : a = false ∨ s2 = s1) : tOrD f g ρ s = .ok (a || b) s2 := by
  unfold tOrD
  rw [h1]
  show (if a then .ok true s1 else g ρ s1) = _
  cases a with
  | false => exact h2
  | true => rw [h3.resolve_left (by decide)]; rfl
theorem not_ok {f : Tf} {ρ : En} {s s1 : S} {a : Bool} (h1 : f ρ s = .ok a s1) : tNotD f ρ s = .ok (!a) s1 := by
  unfold tNotD
  rw [h1]
  rfl
theorem t_ok {f : Ef} {ρ : En} {s s1 : S} {d : D} {b : Bool} (h1 : f ρ s = .ok d s1) (h2 : truD d = some b) : tT f ρ s = .ok b s1 := by
  unfold tT
  rw [h1]
  show opt (truD d) s1 = _
  rw [h2]
  rfl
theorem it_ok {f : Ef} {ρ : En} {s s1 : S} {d : D} {ds : List D} (h1 : f ρ s = .ok d s1) (h2 : itD d = some ds) : iIt f ρ s = .ok ds s1 := by
  unfold iIt
  rw [h1]
  show opt (itD d) s1 = _
  rw [h2]
  rfl
theorem enum_ok {fa : Af} {ρ : En} {s s1 : S} {d : D} {ds : List D} (h1 : fa ρ s = .ok [d] s1) (h2 : itD d = some ds) : iEnum fa ρ s = .ok (enumF 0 ds) s1 := by
  unfold iEnum
  rw [h1]
  show opt ((itD d).map (enumF 0)) s1 = _
  rw [h2]
  rfl
theorem par_ok {i j : Nat} {fa : Af} {g : Sf} {ρ : En} {s s1 : S} {a b : D} (h : fa ρ s = .ok [a, b] s1) : sSeq (sPar i j fa) g ρ s = g ((ρ.set i (.val a)).set j (.val b)) s1 := by
  unfold sSeq sPar
  rw [h]
  rfl
theorem seq_nx {a g : Sf} {ρ ρ' : En} {s s' : S} (h : a ρ s = .nx ρ' s') : sSeq a g ρ s = g ρ' s' := by
  unfold sSeq
  rw [h]
  rfl
theorem seq_rt {a g : Sf} {ρ : En} {s s' : S} {d : D} (h : a ρ s = .rt d s') : sSeq a g ρ s = .rt d s' := by
  unfold sSeq
  rw [h]
  rfl
theorem range_map (n : Nat) : rangeL 0 n = (List.range n).map fun i => .int (i : Nat) := by
  unfold rangeL
  refine List.map_congr_left fun i _ => ?_
  show D.int (0 + (i : Int)) = _
  rw [Int.zero_add]
theorem rg1_nat {n : Nat} (hn : n ≤ 1000000) : rg1 [(n : Int)] = some (rangeL 0 n) := by
  have b : big (n : Int) = true := by
    unfold big
    rw [Bool.and_eq_true]
    exact ⟨decide_eq_true (by omega), decide_eq_true (by omega)⟩
  have e : (n : Int).toNat = n := by omega
  unfold rg1
  simp only [b, e, if_true]
theorem ix_lst {ds : List D} {k : Nat} {d : D} (h : ds[k]? = some d) : vIx (.lst ds) (.int (k : Int)) = some d := atI_nat h
theorem ix_tup {ds : List D} {k : Nat} {d : D} (h : ds[k]? = some d) : vIx (.tup ds) (.int (k : Int)) = some d := atI_nat h
theorem getD_map {α β : Type} (h : α → β) {l : List α} {k : Nat} (z : α) (hk : k < l.length) : (l.map h)[k]? = some (h (l.getD k z)) := by
  rw [List.getElem?_map, List.getElem?_eq_getElem hk, List.getD_eq_getElem?_getD, List.getElem?_eq_getElem hk]
  rfl
theorem len_lst (ds : List D) : g1 lenV [.lst ds] = some (.int (ds.length : Nat)) := by simp [g1, lenV, lenD]
theorem len_tup (ds : List D) : g1 lenV [.tup ds] = some (.int (ds.length : Nat)) := by simp [g1, lenV, lenD]
theorem lenL {ds : List D} {n : Nat} (h : ds.length = n) : g1 lenV [.lst ds] = some (.int (n : Nat)) := h ▸ len_lst ds
theorem lenT {ds : List D} {n : Nat} (h : ds.length = n) : g1 lenV [.tup ds] = some (.int (n : Nat)) := h ▸ len_tup ds
theorem range1 {fa : Af} {ρ : En} {s s1 : S} {n : Nat} (h : fa ρ s = .ok [.int (n : Nat)] s1) (hn : n ≤ 1000000) : iRange rg1 fa ρ s = .ok ((List.range n).map fun i => .int (i : Nat)) s1 := range_map n ▸ range_ok h rfl (rg1_nat hn)
theorem if_pass {c : Tf} {a : Sf} {ρ : En} {s s1 : S} (h : c ρ s = .ok false s1) : sIf c a sNil ρ s = .nx ρ s1 := by
  unfold sIf
  rw [h]
  rfl
theorem seq_pass {c : Tf} {a g : Sf} {ρ : En} {s s1 : S} (h : c ρ s = .ok false s1) : sSeq (sIf c a sNil) g ρ s = g ρ s1 := seq_nx (if_pass h)
end Vv
namespace Vv
end Vv
namespace Vv
def htsF : Int → List Nat → List Int
  | h, [] => [h]
  | h, c :: r => h :: htsF (h + if c = 100 then 1 else -1) r
theorem hts_len : ∀ (l : List Nat) (h : Int), (htsF h l).length = l.length + 1
  | [], _ => rfl
  | c :: r, h => congrArg Nat.succ (hts_len r _)
abbrev intsD (x : List Int) : List D := x.map D.int
end Vv
namespace Vv
end Vv
namespace Vv
end Vv
namespace Vv
end Vv
namespace Vv
theorem getD_mem {α : Type} {l : List α} {i : Nat} (z : α) (h : i < l.length) : l.getD i z ∈ l := by
  rw [List.getD_eq_getElem?_getD, List.getElem?_eq_getElem h]
  exact List.getElem_mem h
structure Lists (LL : List (List (List Nat))) (n w : Nat) : Prop where
  n1 : 1 ≤ n
  n6 : n ≤ 6
  w1 : 1 ≤ w
  w12 : w ≤ 12
  len : LL.length ≤ 1000
  wid : ∀ W ∈ LL, W.length = w
  good : ∀ W ∈ LL, ∀ l ∈ W, Good l n
section
variable {LL : List (List (List Nat))} {n w : Nat}
abbrev lstW (W : List (List Nat)) : D := .lst (W.map .str)
end
end Vv
namespace Vv
end Vv
namespace Vv
end Vv
namespace Vv
end Vv
namespace Vv
theorem star_ok {fe : Ef} {fr : Af} {ρ : En} {s s1 s2 : S} {d : D} {b : Bool} {l xs : List D} (h1 : fe ρ s = .ok d s1) (h2 : seqD d = some (b, l)) (h3 : fr ρ s1 = .ok xs s2) : aStar fe fr ρ s = .ok (l ++ xs) s2 := by
  unfold aStar
  rw [h1]
  show (match seqD d with
    | some (_, l) => (fr ρ s1).bind fun xs s2 => .ok (l ++ xs) s2
    | none => .bad) = _
  rw [h2]
  show (fr ρ s1).bind _ = _
  rw [h3]
  rfl
end Vv
namespace Vv
end Vv
namespace Vv
end Vv
namespace Vv
end Vv
namespace Vv
theorem eqvs_of : ∀ l : List D, (∀ d ∈ l, D.eqv d d = true) → D.eqvs l l = true
  | [], _ => by unfold D.eqvs; rfl
  | d :: l, h => by
    unfold D.eqvs
    rw [h d List.mem_cons_self, eqvs_of l fun z hz => h z (List.mem_cons_of_mem _ hz)]
    rfl
theorem eqv_rfl : ∀ (k : Nat) (d : D), pl k d = true → D.eqv d d = true := fun k => by
  induction k with
  | zero => intro d h; cases d <;> first | (simp [pl] at h; done) | simp [D.eqv]
  | succ k ih =>
    intro d h
    cases d with
    | tup l =>
      have h : l.all (pl k) = true := h
      rw [List.all_eq_true] at h
      unfold D.eqv
      exact eqvs_of l fun z hz => ih z (h z hz)
    | lst l =>
      have h : l.all (pl k) = true := h
      rw [List.all_eq_true] at h
      unfold D.eqv
      exact eqvs_of l fun z hz => ih z (h z hz)
    | _ => first | (simp [pl] at h; done) | simp [D.eqv]
theorem ne_same {d : D} (h : pl 8 d = true) : vNe d d = some (.bl false) := by
  unfold vNe
  rw [h, eqv_rfl 8 d h]
  rfl
end Vv
namespace Vv
theorem asg_nx {i : Nat} {f : Ef} {ρ : En} {s s1 : S} {d : D} (h : f ρ s = .ok d s1) : sAsg f (gtN i) ρ s = .nx (ρ.set i (.val d)) s1 := by
  unfold sAsg
  rw [h]
  rfl
end Vv
namespace Vv
theorem and_f {f g : Tf} {ρ : En} {s s1 : S} (h1 : f ρ s = .ok false s1) : tAndD f g ρ s = .ok false s1 := by
  unfold tAndD
  rw [h1]
  rfl
theorem if_t {c : Tf} {a b : Sf} {ρ : En} {s s1 : S} (h1 : c ρ s = .ok true s1) : sIf c a b ρ s = a ρ s1 := by
  rw [if_ok h1, if_pos rfl]
theorem int_eq (a b : Int) : vEq (.int a) (.int b) = some (.bl (a == b)) := rfl
theorem tup2 {fa fb : Ef} {ρ : En} {s s1 s2 : S} {x y : D} (h1 : fa ρ s = .ok x s1) (h2 : fb ρ s1 = .ok y s2) : eOpN gTupD (aCons fa (aCons fb aNil)) ρ s = .ok (.tup [x, y]) s2 := opN_ok (cons_ok h1 (cons_ok h2 rfl)) rfl
end Vv
namespace Vv
end Vv
namespace Vv
theorem chain_ok {g g' : D → D → Option D} {fa fb fc : Ef} {ρ : En} {s s1 s2 : S} {x y w : D} {a b : Bool} (h1 : fa ρ s = .ok x s1) (h2 : fb ρ s1 = .ok y s2) (h3 : fc ρ s2 = .ok w s2) (e1 : g x y = some (.bl a)) (e2 : g' y w = some (.bl b)) : eChain g g' fa fb fc ρ s = .ok (.bl (a && b)) s2 := by
  unfold eChain
  rw [h1]
  show (fb ρ s1).bind _ = _
  rw [h2]
  show (opt (g x y) s2).bind _ = _
  rw [e1]
  cases a with
  | false => rfl
  | true =>
    show (fc ρ s2).bind _ = _
    rw [h3]
    show opt (g' y w) s2 = _
    rw [e2]
    rfl
end Vv
namespace Vv
theorem maxL_mem {l : List Int} (h : l ≠ []) : maxL l ∈ l ∧ ∀ y ∈ l, y ≤ maxL l := by
  induction l with
  | nil => exact absurd rfl h
  | cons x r ih =>
    cases r with
    | nil => exact ⟨List.mem_cons_self, fun y hy => by rw [List.mem_singleton.mp hy]; exact Int.le_refl _⟩
    | cons z r =>
      obtain ⟨a, b⟩ := ih (by simp)
      show (if maxL (z :: r) > x then maxL (z :: r) else x) ∈ x :: z :: r ∧ ∀ y ∈ x :: z :: r, y ≤ (if maxL (z :: r) > x then maxL (z :: r) else x)
      split
      · exact ⟨List.mem_cons_of_mem _ a, fun y hy => (List.mem_cons.mp hy).elim (fun e => by rw [e]; omega) (b y)⟩
      · exact ⟨List.mem_cons_self, fun y hy => (List.mem_cons.mp hy).elim (fun e => by rw [e]; exact Int.le_refl _) fun h => by have := b y h; omega⟩
theorem minL_mem {l : List Int} (h : l ≠ []) : minL l ∈ l ∧ ∀ y ∈ l, minL l ≤ y := by
  induction l with
  | nil => exact absurd rfl h
  | cons x r ih =>
    cases r with
    | nil => exact ⟨List.mem_cons_self, fun y hy => by rw [List.mem_singleton.mp hy]; exact Int.le_refl _⟩
    | cons z r =>
      obtain ⟨a, b⟩ := ih (by simp)
      show (if minL (z :: r) < x then minL (z :: r) else x) ∈ x :: z :: r ∧ ∀ y ∈ x :: z :: r, (if minL (z :: r) < x then minL (z :: r) else x) ≤ y
      split
      · exact ⟨List.mem_cons_of_mem _ a, fun y hy => (List.mem_cons.mp hy).elim (fun e => by rw [e]; omega) (b y)⟩
      · exact ⟨List.mem_cons_self, fun y hy => (List.mem_cons.mp hy).elim (fun e => by rw [e]; exact Int.le_refl _) fun h => by have := b y h; omega⟩
def Ext (f : List Int → Int) : Prop := f = maxL ∨ f = minL
theorem Ext.mem {f : List Int → Int} (x : Ext f) {l : List Int} (h : l ≠ []) : f l ∈ l := by
  rcases x with rfl | rfl
  · exact (maxL_mem h).1
  · exact (minL_mem h).1
theorem Ext.step {f : List Int → Int} (x : Ext f) {α : Type} {hs : List α} {g g' : α → Int} (ne : hs ≠ []) (h : ∀ a ∈ hs, g' a = g a + 1 ∨ g' a = g a - 1) : f (hs.map g') - f (hs.map g) ≤ 1 ∧ f (hs.map g) - f (hs.map g') ≤ 1 := by
  have n1 : hs.map g ≠ [] := by intro e; exact ne (List.map_eq_nil_iff.mp e)
  have n2 : hs.map g' ≠ [] := by intro e; exact ne (List.map_eq_nil_iff.mp e)
  obtain ⟨a, ha, ea⟩ := List.mem_map.mp (x.mem n1)
  obtain ⟨b, hb, eb⟩ := List.mem_map.mp (x.mem n2)
  rcases x with rfl | rfl
  · have u1 := (maxL_mem n2).2 (g' a) (List.mem_map_of_mem ha)
    have u2 := (maxL_mem n1).2 (g b) (List.mem_map_of_mem hb)
    rcases h a ha with p | p <;> rcases h b hb with q | q <;> omega
  · have u1 := (minL_mem n2).2 (g' a) (List.mem_map_of_mem ha)
    have u2 := (minL_mem n1).2 (g b) (List.mem_map_of_mem hb)
    rcases h a ha with p | p <;> rcases h b hb with q | q <;> omega
end Vv
namespace Vv
theorem lc_fnD {α : Type} {gt : D → En → Option En} {ft : Tf} {fe : Ef} {ρ : En} {s : S} {p : α → Bool} (h e : α → D) : ∀ (xs : List α) (acc : List D), (∀ x ∈ xs, ∃ ρ1, gt (h x) ρ = some ρ1 ∧ ft ρ1 s = .ok (p x) s ∧ (p x = true → fe ρ1 s = .ok (e x) s)) → acc.length + xs.length ≤ 100000 → lcD gt ft fe ρ (xs.map h) acc s = .ok (acc ++ (xs.filter p).map e) s
  | [], acc, _, _ => by
    show R.ok acc s = .ok (acc ++ []) s
    rw [List.append_nil]
  | x :: xs, acc, k, hl => by
    obtain ⟨ρ1, e1, e2, e3⟩ := k x List.mem_cons_self
    rw [List.length_cons] at hl
    rw [List.map_cons]
    unfold lcD
    rw [e1]
    show (ft ρ1 s).calm.bind _ = _
    rw [e2]
    show (if p x = true then _ else _) = _
    cases hp : p x with
    | false =>
      rw [if_neg Bool.false_ne_true, List.filter_cons_of_neg (by rw [hp]; exact Bool.false_ne_true)]
      exact lc_fnD h e xs acc (fun z hz => k z (List.mem_cons_of_mem _ hz)) (by omega)
    | true =>
      rw [if_pos rfl, e3 hp, List.filter_cons_of_pos hp]
      show (if fit acc.length then lcD gt ft fe ρ (xs.map h) (acc ++ [e x]) s else .bad) = _
      rw [show fit acc.length = true from decide_eq_true (by omega), if_pos rfl]
      rw [lc_fnD h e xs (acc ++ [e x]) (fun z hz => k z (List.mem_cons_of_mem _ hz)) (by rw [List.length_append, List.length_singleton]; omega)]
      rw [List.append_assoc]
      rfl
theorem lc_fn {α : Type} {is : List Nat} {fi : Af} {gt : D → En → Option En} {fe : Ef} {ρ : En} {s : S} (xs : List α) (h e : α → D) (p : is.all (plainAt ρ) = true) (h1 : fi ρ s = .ok (xs.map h) s) (hl : xs.length ≤ 100000)
    (k : ∀ x ∈ xs, ∃ ρ1, gt (h x) (wipeE ρ is) = some ρ1 ∧ fe ρ1 s = .ok (e x) s) : eOf (lLc is fi gt tTrue fe) ρ s = .ok (.lst (xs.map e)) s := by
  refine of_ok (lc_ok p h1 ?_)
  rw [lc_fnD (p := fun _ => true) h e xs [] (fun x hx => ?_) (by rw [List.length_nil]; omega)]
  · rw [List.filter_eq_self.mpr (fun _ _ => rfl), List.nil_append]
  · obtain ⟨ρ1, e1, e2⟩ := k x hx
    exact ⟨ρ1, e1, rfl, fun _ => e2⟩
theorem lc_fnp {α : Type} {is : List Nat} {fi : Af} {gt : D → En → Option En} {ft : Tf} {fe : Ef} {ρ : En} {s : S} (xs : List α) (p : α → Bool) (h e : α → D) (pl : is.all (plainAt ρ) = true) (h1 : fi ρ s = .ok (xs.map h) s) (hl : xs.length ≤ 100000)
    (k : ∀ x ∈ xs, ∃ ρ1, gt (h x) (wipeE ρ is) = some ρ1 ∧ ft ρ1 s = .ok (p x) s ∧ (p x = true → fe ρ1 s = .ok (e x) s)) : eOf (lLc is fi gt ft fe) ρ s = .ok (.lst ((xs.filter p).map e)) s := by
  refine of_ok (lc_ok pl h1 ?_)
  rw [lc_fnD h e xs [] k (by rw [List.length_nil]; omega), List.nil_append]
end Vv
namespace Vv
end Vv
namespace Vv
theorem loop_nx {gt : D → En → Option En} {gb : Sf} {d : D} {ds : List D} {ρ ρ1 ρ2 : En} {s s2 : S} (h1 : gt d ρ = some ρ1) (h2 : gb ρ1 s = .nx ρ2 s2) : loopD gt gb (d :: ds) ρ s = loopD gt gb ds ρ2 s2 := by
  show (match gt d ρ with
    | none => SR.bad
    | some ρ1 => match gb ρ1 s with
      | .nx ρ2 s2 => loopD gt gb ds ρ2 s2
      | .ct ρ2 s2 => loopD gt gb ds ρ2 s2
      | .bk ρ2 s2 => .nx ρ2 s2
      | r => r) = _
  rw [h1]
  show (match gb ρ1 s with
      | .nx ρ2 s2 => loopD gt gb ds ρ2 s2
      | .ct ρ2 s2 => loopD gt gb ds ρ2 s2
      | .bk ρ2 s2 => .nx ρ2 s2
      | r => r) = _
  rw [h2]
theorem llst_t {fa : Af} {ρ : En} {s s1 : S} {l : List D} (h : fa ρ s = .ok [.tup l] s1) : eOf (lLst fa) ρ s = .ok (.lst l) s1 := by
  refine of_ok ?_
  unfold lLst
  rw [h]
  rfl
end Vv
namespace Vv
theorem asg_g {f : Ef} {gt : D → En → Option En} {g : Sf} {ρ ρ' : En} {s s1 : S} {d : D} (h : f ρ s = .ok d s1) (h2 : gt d ρ = some ρ') : sSeq (sAsg f gt) g ρ s = g ρ' s1 := by
  unfold sSeq sAsg
  rw [h]
  show (match gt d ρ with
    | some ρ' => SR.nx ρ' s1
    | none => SR.bad).then g = _
  rw [h2]
  rfl
theorem ix_str {l : List Nat} {t : Nat} (h : t < l.length) (h1 : l.length ≤ 1000) : vIx (.str l) (.int (t : Nat)) = some (.str [l.getD t 0]) := by
  show (if lim l.length then (atI l (t : Int)).map fun c => D.str [c] else none) = _
  rw [show lim l.length = true from decide_eq_true (by omega), if_pos rfl, atI_nat (List.getElem?_eq_getElem h), List.getD_eq_getElem?_getD, List.getElem?_eq_getElem h]
  rfl
theorem len_str {l : List Nat} {m : Nat} (h : l.length = m) (h1 : m ≤ 1000) : g1 lenV [.str l] = some (.int (m : Nat)) := by
  subst h
  show (if lim l.length then some l.length else none).map (fun (n : Nat) => D.int (n : Int)) = _
  rw [show lim l.length = true from decide_eq_true h1, if_pos rfl]
  rfl
def comP (l k : List Nat) (t : Nat) : Bool := (l.getD t 0 == k.getD t 0) && ((htsF 0 l).getD t 0 == (htsF 0 k).getD t 0)
def comS (l k : List Nat) (n : Nat) : List Nat := (List.range (2 * n)).filter (comP l k)
section
variable {n : Nat} {l k : List Nat}
theorem good_at (g : Good l n) {t : Nat} (ht : t < 2 * n) : l.getD t 0 = 100 ∨ l.getD t 0 = 111 := g.ltr _ (getD_mem 0 (by rw [g.len]; exact ht))
theorem hts_ix (g : Good l n) {t : Nat} (ht : t ≤ 2 * n) : (intsD (htsF 0 l))[t]? = some (.int ((htsF 0 l).getD t 0)) := getD_map D.int 0 (by rw [hts_len, g.len]; omega)
theorem lcommon_ok (hh : ∀ l, Good l n → F_l_heights [.str l] = .ok (.lst (intsD (htsF 0 l))) none) (n6 : n ≤ 6) (g : Good l n) (g' : Good k n) : F_l_common [.str l, .str k] = .ok (.lst ((comS l k n).map fun t => .int (t : Nat))) none := by
  have f0 : F_l_common [.str l, .str k] = resP (b_l_common [.val (.str l), .val (.str k), .no, .no, .no] none) := by
    unfold F_l_common
    generalize b_l_common = z
    rfl
  rw [f0]
  have len := g.len
  have len' := g'.len
  unfold b_l_common
  refine Eq.trans (congrArg resP (asg_g (ρ' := [.val (.str l), .val (.str k), .val (.lst (intsD (htsF 0 l))), .val (.lst (intsD (htsF 0 k))), .no]) (opN_ok (ds := [.lst (intsD (htsF 0 l)), .lst (intsD (htsF 0 k))]) (cons_ok (call_ok (cons_ok rfl rfl) rfl (hh l g)) (cons_ok (call_ok (cons_ok rfl rfl) rfl (hh k g')) rfl)) rfl) rfl)) ?_
  refine Eq.trans (congrArg resP (ret_of (s1 := none) (d := .lst ((comS l k n).map fun t => .int (t : Nat))) ?_)) rfl
  refine lc_fnp (List.range (2 * n)) (comP l k) (fun t => .int (t : Nat)) (fun t => .int (t : Nat)) rfl (range1 (cons_ok (opN_ok (cons_ok rfl rfl) (len_str len (by omega))) rfl) (by omega)) (by rw [List.length_range]; omega) fun t ht => ⟨_, rfl, ?_, fun _ => rfl⟩
  have ht := List.mem_range.mp ht
  exact and_ok (b2_ok (op2_ok (op2_ok rfl rfl (ix_str (by omega) (by omega))) (op2_ok rfl rfl (ix_str (by omega) (by omega))) (eq_strs (good_at g ht) (good_at g' ht)))) (b2_ok (op2_ok (op2_ok rfl rfl (ix_lst (hts_ix g (by omega)))) (op2_ok rfl rfl (ix_lst (hts_ix g' (by omega)))) (eq_ints _ _))) (.inr rfl)
theorem com_len : (comS l k n).length ≤ 2 * n := Nat.le_trans (List.length_filter_le _ _) (by rw [List.length_range]; exact Nat.le_refl _)
end
end Vv
namespace Vv
theorem mval_ok {fe : Ef} {fm : Mf} {ρ : En} {s s1 s2 : S} {d : D} {ls : List Sl} (h1 : fe ρ s = .ok d s1) (h2 : fm ρ s1 = .ok ls s2) : mVal fe fm ρ s = .ok (.val d :: ls) s2 := by
  unfold mVal
  rw [h1]
  show (fm ρ s1).bind _ = _
  rw [h2]
  rfl
theorem mown_ok {f : Lf} {fm : Mf} {ρ : En} {s s1 s2 : S} {ds : List D} {ls : List Sl} (h1 : f ρ s = .ok ds s1) (h2 : fm ρ s1 = .ok ls s2) : mOwn f fm ρ s = .ok (.own ds :: ls) s2 := by
  unfold mOwn
  rw [h1]
  show (fm ρ s1).bind _ = _
  rw [h2]
  rfl
theorem par3M_nx {i j k : Nat} {fm : Mf} {ρ : En} {s s1 : S} {x y z : Sl} (h : fm ρ s = .ok [x, y, z] s1) : sPar3M i j k fm ρ s = .nx (((ρ.set i x).set j y).set k z) s1 := by
  unfold sPar3M
  rw [h]
  rfl
theorem pick_ok {ds : List D} {st : HS} (h1 : 1 ≤ ds.length) (hl : ds.length ≤ 100000) (hs : hsOk st = true) : ∃ (c : Nat) (d : D) (st' : HS), F_l_pick [.lst ds] (some st) = .ok d (some st') ∧ ds[c]? = some d ∧ hsOk st' = true := by
  obtain ⟨d, st1, e1, d0, d5, hs1⟩ := draw_ok hs (m := (ds.length : Nat)) (by omega) (by omega)
  obtain ⟨c, rfl⟩ : ∃ c : Nat, d = c := ⟨d.toNat, by omega⟩
  have hc : c < ds.length := by omega
  have f0 : F_l_pick [.lst ds] (some st) = resH (b_l_pick [.hand, .val (.lst ds)] (some st)) := by
    unfold F_l_pick
    generalize b_l_pick = z
    rfl
  refine ⟨c, ds[c], st1, ?_, List.getElem?_eq_getElem hc, hs1⟩
  rw [f0]
  unfold b_l_pick
  exact Eq.trans (congrArg resH (ret_of (op2_ok (x := .lst ds) (s1 := some st) rfl (callH_ok rfl (cons_ok (opN_ok (cons_ok rfl rfl) (len_lst ds)) rfl) rfl e1) (ix_lst (List.getElem?_eq_getElem hc))))) rfl
theorem com_pw {l k : List Nat} {n : Nat} : (comS l k n).Pairwise (· < ·) := List.Pairwise.filter _ List.pairwise_lt_range
theorem com_lt {l k : List Nat} {n t : Nat} (h : t ∈ comS l k n) : t < 2 * n := List.mem_range.mp (List.mem_filter.mp h).1
def innS (L : List Nat) : List Nat := (L.drop (min 1 L.length)).take (L.length - 1 - min 1 L.length)
theorem inn_cut {α : Type} (f : Nat → α) (L : List Nat) : cutL (L.map f) (some 1) (some (-1)) = (innS L).map f := by
  unfold cutL innS
  have e1 : HT.sIx (L.map f).length 0 (some 1) = min 1 L.length := by
    rw [List.length_map]
    show (if (1 : Int) < 0 then ((1 : Int) + (L.length : Int)).toNat else min (1 : Int).toNat L.length) = _
    rw [if_neg (by decide)]
    rfl
  have e2 : HT.sIx (L.map f).length (L.map f).length (some (-1)) = L.length - 1 := by
    rw [List.length_map]
    show (if (-1 : Int) < 0 then ((-1 : Int) + (L.length : Int)).toNat else min (-1 : Int).toNat L.length) = _
    rw [if_pos (by decide)]
    omega
  rw [e1, e2, List.map_take, List.map_drop]
theorem inn_mem {l k : List Nat} {n t : Nat} (h : t ∈ innS (comS l k n)) : 1 ≤ t ∧ t + 1 < 2 * n := by
  have pw := com_pw (l := l) (k := k) (n := n)
  generalize hL : comS l k n = L at h pw
  have lt : ∀ x ∈ L, x < 2 * n := fun x hx => com_lt (l := l) (k := k) (by rw [hL]; exact hx)
  obtain ⟨i, hi, e⟩ := List.getElem_of_mem h
  unfold innS at hi e
  rw [List.length_take, List.length_drop] at hi
  rw [List.getElem_take, List.getElem_drop] at e
  have h3 : min 1 L.length = 1 := by omega
  have hj : min 1 L.length + i < L.length := by omega
  have a := List.pairwise_iff_getElem.mp pw 0 (min 1 L.length + i) (by omega) hj (by omega)
  have b := List.pairwise_iff_getElem.mp pw (min 1 L.length + i) (L.length - 1) hj (by omega) (by omega)
  have c := lt _ (List.getElem_mem (show L.length - 1 < L.length by omega))
  rw [e] at a b
  omega
theorem ne_nil (L : List Nat) : vNe (.lst (L.map fun t => .int (t : Nat))) (.lst []) = some (.bl (!L.isEmpty)) := by
  have p : pl 8 (.lst (L.map fun t => D.int (t : Nat))) = true := List.all_eq_true.mpr fun d hd => by
    obtain ⟨t, _, rfl⟩ := List.mem_map.mp hd
    rfl
  show (if pl 8 (.lst (L.map fun t => D.int (t : Nat))) && pl 8 (.lst []) then some (D.bl (!D.eqv (.lst (L.map fun t => D.int (t : Nat))) (.lst []))) else none) = _
  rw [p]
  cases L <;> rfl
abbrev envS7 (W : List (List Nat)) (n w : Nat) (M : List (Int × Int)) (s5 s6 s7 s8 : Sl) : En := [.hand, .val (lstW W), .own (M.map markD), .val (.int (n : Nat)), .val (.int (w : Nat)), s5, s6, s7, s8]
section
variable {n w : Nat} {W : List (List Nat)} {M : List (Int × Int)}
theorem slits_1 (hh : ∀ l, Good l n → F_l_heights [.str l] = .ok (.lst (intsD (htsF 0 l))) none) (ok : Lists [W] n w) (n2 : 2 ≤ n) (w2 : 2 ≤ w) (hM : ∀ m ∈ M, OkMk n w m) (nd : M.Nodup) (hl : M.length ≤ 100) {s5 s6 s7 s8 : Sl} {st : HS} (hs : hsOk st = true)
    (h6 : s6 = .no ∨ ∃ q, s6 = .val q) (h7 : s7 = .no ∨ ∃ q, s7 = .val q) (h8 : s8 = .no ∨ ∃ q, s8 = .val q) (h5 : s5 = .no ∨ ∃ q, s5 = .val q) :
    ∃ (M' : List (Int × Int)) (a b c : D) (st' : HS), b_l_slits_1 (envS7 W n w M s5 s6 s7 s8) (some st) = .nx (envS7 W n w M' s5 (.val a) (.val b) (.val c)) (some st') ∧ (∀ m ∈ M', OkMk n w m) ∧ M'.Nodup ∧ M'.length ≤ M.length + 1 ∧ hsOk st' = true := by
  have wl := ok.wid W List.mem_cons_self
  have g := ok.good W List.mem_cons_self
  have n6 := ok.n6
  have w12 := ok.w12
  obtain ⟨c, st1, e1, c0, c5, hs1⟩ := draw_ok hs (m := (w : Int) - 1) (by omega) (by omega)
  obtain ⟨c, rfl⟩ : ∃ x : Nat, c = x := ⟨c.toNat, by omega⟩
  obtain ⟨d, st2, e2, d0, d5, hs2⟩ := draw_ok hs1 (m := 2 * (n : Int) - 2) (by omega) (by omega)
  obtain ⟨d, rfl⟩ : ∃ x : Nat, d = x := ⟨d.toNat, by omega⟩
  have hc1 : c < W.length := by omega
  have hc2 : c + 1 < W.length := by omega
  have g1 := g _ (getD_mem [] hc1)
  have g2 := g _ (getD_mem [] hc2)
  have mul : vI gMul (.int 2) (.int (n : Nat)) = some (.int (2 * (n : Int))) := by
    show (gMul 2 (n : Int)).map D.int = _
    rw [gMul2]
    rfl
  unfold b_l_slits_1
  have s1 : ∀ g : Sf, sSeq (sAsg (eCallH 0 1 F_l_draw (aCons (eOp2 vSub (eN 4) (eC (.int 1))) aNil)) (gtN 6)) g (envS7 W n w M s5 s6 s7 s8) (some st) = g (envS7 W n w M s5 (.val (.int (c : Nat))) s7 s8) (some st1) := fun g =>
    (seq_asg (callH_ok rfl (cons_ok (op2_ok (x := .int (w : Nat)) (y := .int 1) rfl rfl rfl) rfl) rfl e1)).trans rfl
  have s2 : ∀ g : Sf, sSeq (sAsg (eOp2 vAdd (eC (.int 1)) (eCallH 0 1 F_l_draw (aCons (eOp2 vSub (eOp2 (vI gMul) (eC (.int 2)) (eN 3)) (eC (.int 2))) aNil))) (gtN 7)) g (envS7 W n w M s5 (.val (.int (c : Nat))) s7 s8) (some st1) = g (envS7 W n w M s5 (.val (.int (c : Nat))) (.val (.int ((1 + d : Nat) : Int))) s8) (some st2) := fun g =>
    (seq_asg (d := .int ((1 + d : Nat) : Int)) (op2_ok (x := .int 1) (y := .int (d : Nat)) (s1 := some st1) rfl (callH_ok rfl (cons_ok (op2_ok (x := .int (2 * (n : Int))) (op2_ok rfl rfl mul) rfl rfl) rfl) rfl e2) rfl)).trans rfl
  have s3 : ∀ g : Sf, sSeq (sAsg (eSl (eCall 2 F_l_common (aCons (eOp2 vIx (eN 1) (eN 6)) (aCons (eOp2 vIx (eN 1) (eOp2 vAdd (eN 6) (eC (.int 1)))) aNil))) (oSome (eC (.int 1))) (oSome (eOp1 negD (eC (.int 1))))) (gtN 8)) g (envS7 W n w M s5 (.val (.int (c : Nat))) (.val (.int ((1 + d : Nat) : Int))) s8) (some st2) = g (envS7 W n w M s5 (.val (.int (c : Nat))) (.val (.int ((1 + d : Nat) : Int))) (.val (.lst ((innS (comS (W.getD c []) (W.getD (c + 1) []) n)).map fun t => .int (t : Nat))))) (some st2) := fun g =>
    Eq.trans (seq_asg (sl_ok (s1 := some st2) (s2 := some st2) (s3 := some st2) (x := .lst ((comS (W.getD c []) (W.getD (c + 1) []) n).map fun t => .int (t : Nat))) (call_ok (m := 2) (t := none) (ds := [.str (W.getD c []), .str (W.getD (c + 1) [])]) (cons_ok (op2_ok rfl rfl (ix_lst (getD_map D.str [] hc1))) (cons_ok (op2_ok rfl (op2_ok (x := .int (c : Nat)) (y := .int 1) (d := .int ((c + 1 : Nat) : Int)) rfl rfl rfl) (ix_lst (getD_map D.str [] hc2))) rfl)) rfl (lcommon_ok hh n6 g1 g2)) (some_ok (i := 1) rfl) (some_ok (i := -1) (un_ok (g := negD) (x := .int 1) rfl rfl))
      (show some (D.lst (cutL ((comS (W.getD c []) (W.getD (c + 1) []) n).map fun t => D.int (t : Nat)) (some 1) (some (-1)))) = _ by rw [inn_cut]))) rfl
  rw [s1, s2, s3]
  generalize hI : innS (comS (W.getD c []) (W.getD (c + 1) []) n) = I
  have mI : ∀ t ∈ I, 1 ≤ t ∧ t + 1 < 2 * n := fun t ht => inn_mem (by rw [hI]; exact ht)
  -- the step
  have key : ∃ (t : Nat) (st3 : HS), (∀ g : Sf, sSeq (sIf (tAndD (tB2 (eOp2 vNe (eN 8) (eOpN gLstD aNil))) (tB2 (eOp2 vEq (eCallH 0 1 F_l_draw (aCons (eC (.int 2)) aNil)) (eC (.int 0))))) (sAsg (eCallH 0 1 F_l_pick (aCons (eN 8) aNil)) (gtN 7)) sNil) g (envS7 W n w M s5 (.val (.int (c : Nat))) (.val (.int ((1 + d : Nat) : Int))) (.val (.lst (I.map fun t => .int (t : Nat))))) (some st2) = g (envS7 W n w M s5 (.val (.int (c : Nat))) (.val (.int (t : Nat))) (.val (.lst (I.map fun t => .int (t : Nat))))) (some st3)) ∧ 1 ≤ t ∧ t + 1 < 2 * n ∧ hsOk st3 = true := by
    have t1 : tB2 (eOp2 vNe (eN 8) (eOpN gLstD aNil)) (envS7 W n w M s5 (.val (.int (c : Nat))) (.val (.int ((1 + d : Nat) : Int))) (.val (.lst (I.map fun t => .int (t : Nat))))) (some st2) = .ok (!I.isEmpty) (some st2) := b2_ok (op2_ok (y := .lst []) rfl (opN_ok (ds := []) rfl rfl) (ne_nil I))
    cases hE : I.isEmpty with
    | true =>
      rw [hE] at t1
      exact ⟨1 + d, st2, fun g => seq_pass (and_f t1), by omega, by omega, hs2⟩
    | false =>
      rw [hE] at t1
      obtain ⟨z, st3, e3, z0, z2, hs3⟩ := draw_ok hs2 (m := 2) (by decide) (by decide)
      have t2 : tB2 (eOp2 vEq (eCallH 0 1 F_l_draw (aCons (eC (.int 2)) aNil)) (eC (.int 0))) (envS7 W n w M s5 (.val (.int (c : Nat))) (.val (.int ((1 + d : Nat) : Int))) (.val (.lst (I.map fun t => .int (t : Nat))))) (some st2) = .ok (z == 0) (some st3) := b2_ok (op2_ok (x := .int z) (y := .int 0) (callH_ok rfl (cons_ok rfl rfl) rfl e3) rfl (int_eq _ _))
      have tt := and_ok t1 t2 (.inl rfl)
      cases hz : (z == 0) with
      | false =>
        rw [hz] at tt
        exact ⟨1 + d, st3, fun g => seq_pass tt, by omega, by omega, hs3⟩
      | true =>
        rw [hz] at tt
        have l1 : 1 ≤ I.length := by
          cases I with
          | nil => cases hE
          | cons a b => simp
        have lI : I.length ≤ 100 := by
          rw [← hI]
          unfold innS
          rw [List.length_take, List.length_drop]
          have := com_len (l := W.getD c []) (k := W.getD (c + 1) []) (n := n)
          omega
        obtain ⟨j, v, st4, e4, ev, hs4⟩ := pick_ok (ds := I.map fun t => .int (t : Nat)) (by rw [List.length_map]; exact l1) (by rw [List.length_map]; omega) hs3
        rw [List.getElem?_map] at ev
        obtain ⟨t, et, rfl⟩ := Option.map_eq_some_iff.mp ev
        have ht := mI t (List.mem_of_getElem? et)
        exact ⟨t, st4, fun g => (seq_nx ((if_t tt).trans (asg_nx (callH_ok rfl (cons_ok rfl rfl) rfl e4)))).trans rfl, ht.1, ht.2, hs4⟩
  obtain ⟨t, st3, s4, t1, t2, hs3⟩ := key
  rw [s4]
  have inn : vIn true (.tup [.int (c : Nat), .int (t : Nat)]) (.lst (M.map markD)) = some (.bl (!decide (((c : Int), (t : Int)) ∈ M))) := by
    have p := pl_marks 5 M
    show (if pl 8 (.tup [.int (c : Nat), .int (t : Nat)]) && (M.map markD).all (pl 7) then some (D.bl (if true then !inD (markD ((c : Int), (t : Int))) (M.map markD) else inD (markD ((c : Int), (t : Int))) (M.map markD))) else none) = _
    rw [p, in_marks]
    rfl
  have nob : noOb (envS7 W n w M s5 (.val (.int (c : Nat))) (.val (.int (t : Nat))) (.val (.lst (I.map fun t => .int (t : Nat))))) = true := by
    obtain rfl | ⟨q, rfl⟩ := h5 <;> rfl
  have tst : tU (tB2 (eOp2 (vIn true) (eOpN gTupD (aCons (eN 6) (aCons (eN 7) aNil))) (eN 2))) (envS7 W n w M s5 (.val (.int (c : Nat))) (.val (.int (t : Nat))) (.val (.lst (I.map fun t => .int (t : Nat))))) (some st3) = .ok (!decide (((c : Int), (t : Int)) ∈ M)) (some st3) := by
    unfold tU
    rw [nob, if_pos rfl]
    have := b2_ok (op2_ok (g := vIn true) (fa := eOpN gTupD (aCons (eN 6) (aCons (eN 7) aNil))) (fb := eN 2) (ρ := (envS7 W n w M s5 (.val (.int (c : Nat))) (.val (.int (t : Nat))) (.val (.lst (I.map fun t => .int (t : Nat))))).map frzS) (s := some st3) (s1 := some st3) (s2 := some st3) (x := .tup [.int (c : Nat), .int (t : Nat)]) (y := .lst (M.map markD)) (tup2 rfl rfl) rfl inn)
    rw [this]
    rfl
  by_cases hm : ((c : Int), (t : Int)) ∈ M
  · rw [decide_eq_true hm] at tst
    exact ⟨M, _, _, _, st3, if_pass tst, hM, nd, by omega, hs3⟩
  · rw [decide_eq_false hm] at tst
    refine ⟨M ++ [((c : Int), (t : Int))], .int (c : Nat), .int (t : Nat), .lst (I.map fun t => .int (t : Nat)), st3, (if_t tst).trans ((app_ok (ds := M.map markD) (d := markD ((c : Int), (t : Int))) rfl (tup2 rfl rfl) (by rw [List.length_map]; omega)).trans ?_), fun m h => ?_, ?_, by simp, hs3⟩
    · unfold envS7
      rw [List.map_append]
      rfl
    · rcases List.mem_append.mp h with h | h
      · exact hM m h
      · rw [List.mem_singleton.mp h]
        exact ⟨by show (0 : Int) ≤ c; omega, by show (c : Int) ≤ (w : Int) - 2; omega, by show (1 : Int) ≤ (t : Int); omega, by show (t : Int) ≤ 2 * (n : Int) - 2; omega⟩
    · rw [List.nodup_append]
      exact ⟨nd, by simp, fun a ha b hb e => hm (by rw [List.mem_singleton.mp hb] at e; rw [← e]; exact ha)⟩
theorem slits_for (hh : ∀ l, Good l n → F_l_heights [.str l] = .ok (.lst (intsD (htsF 0 l))) none) (ok : Lists [W] n w) (n2 : 2 ≤ n) (w2 : 2 ≤ w) : ∀ (ks : List D) (M : List (Int × Int)) (st : HS) (s5 s6 s7 s8 : Sl), (∀ m ∈ M, OkMk n w m) → M.Nodup → M.length + ks.length ≤ 90 → hsOk st = true →
    (s6 = .no ∨ ∃ q, s6 = .val q) → (s7 = .no ∨ ∃ q, s7 = .val q) → (s8 = .no ∨ ∃ q, s8 = .val q) →
    ∃ (M' : List (Int × Int)) (st' : HS) (t5 t6 t7 t8 : Sl), loopD (gtN 5) b_l_slits_1 ks (envS7 W n w M s5 s6 s7 s8) (some st) = .nx (envS7 W n w M' t5 t6 t7 t8) (some st') ∧ (∀ m ∈ M', OkMk n w m) ∧ M'.Nodup ∧ M'.length ≤ M.length + ks.length ∧ hsOk st' = true
  | [], M, st, s5, s6, s7, s8, hM, nd, _, hs, _, _, _ => ⟨M, st, s5, s6, s7, s8, rfl, hM, nd, Nat.le_refl _, hs⟩
  | k :: ks, M, st, s5, s6, s7, s8, hM, nd, hl, hs, h6, h7, h8 => by
    rw [List.length_cons] at hl
    obtain ⟨M1, a, b, c, st1, e1, hM1, nd1, l1, hs1⟩ := slits_1 (s5 := .val k) hh ok n2 w2 hM nd (by omega) hs h6 h7 h8 (.inr ⟨k, rfl⟩)
    obtain ⟨M2, st2, t5, t6, t7, t8, e2, hM2, nd2, l2, hs2⟩ := slits_for hh ok n2 w2 ks M1 st1 (.val k) (.val a) (.val b) (.val c) hM1 nd1 (by omega) hs1 (.inr ⟨a, rfl⟩) (.inr ⟨b, rfl⟩) (.inr ⟨c, rfl⟩)
    exact ⟨M2, st2, t5, t6, t7, t8, (loop_nx rfl e1).trans e2, hM2, nd2, by rw [List.length_cons]; omega, hs2⟩
theorem slits_ok (hh : ∀ l, Good l n → F_l_heights [.str l] = .ok (.lst (intsD (htsF 0 l))) none) (ok : Lists [W] n w) {st : HS} (hs : hsOk st = true) :
    ∃ (M : List (Int × Int)) (st' : HS), F_l_slits [lstW W] (some st) = .ok (.lst (M.map markD)) (some st') ∧ (∀ m ∈ M, OkMk n w m) ∧ M.Nodup ∧ M.length ≤ 20 ∧ hsOk st' = true := by
  have f0 : F_l_slits [lstW W] (some st) = resH (b_l_slits [.hand, .val (lstW W), .no, .no, .no, .no, .no, .no, .no] (some st)) := by
    unfold F_l_slits
    generalize b_l_slits = z
    rfl
  rw [f0]
  have wl := ok.wid W List.mem_cons_self
  have w1 := ok.w1
  have w12 := ok.w12
  have n6 := ok.n6
  have len0 : ∃ l L, W = l :: L := by
    cases W with
    | nil => rw [List.length_nil] at wl; omega
    | cons a b => exact ⟨a, b, rfl⟩
  obtain ⟨l0, L0, eW⟩ := len0
  have i0 : vIx (lstW W) (.int 0) = some (.str l0) := by rw [eW]; exact ix_lst (k := 0) rfl
  have len := (ok.good _ List.mem_cons_self l0 (by rw [eW]; exact List.mem_cons_self)).len
  unfold b_l_slits
  have d1 : ∀ ρ : En, (ρ[1]? : Option Sl) = some (.val (lstW W)) → eOp2 (vI gFdiv) (eOpN (g1 lenV) (aCons (eOp2 vIx (eN 1) (eC (.int 0))) aNil)) (eC (.int 2)) ρ (some st) = .ok (.int (n : Nat)) (some st) := fun ρ h => by
    have e1 : eN 1 ρ (some st) = .ok (lstW W) (some st) := by unfold eN; rw [h]
    refine op2_ok (x := .int (2 * n : Nat)) (opN_ok (cons_ok (op2_ok e1 rfl i0) rfl) (len_str len (by omega))) rfl ?_
    show some (D.int (((2 * n : Nat) : Int) / 2)) = _
    congr 2
    omega
  have s0 : sPar3M 2 3 4 (mOwn (fun ρ s => (aNil ρ s).bind fun ds s1 => opt (fitL ds) s1) (mVal (eOp2 (vI gFdiv) (eOpN (g1 lenV) (aCons (eOp2 vIx (eN 1) (eC (.int 0))) aNil)) (eC (.int 2))) (mVal (eOpN (g1 lenV) (aCons (eN 1) aNil)) mNil))) [.hand, .val (lstW W), .no, .no, .no, .no, .no, .no, .no] (some st) = .nx (envS7 W n w [] .no .no .no .no) (some st) := by
    have e1 := d1 [.hand, .val (lstW W), .no, .no, .no, .no, .no, .no, .no] rfl
    have e2 : eOpN (g1 lenV) (aCons (eN 1) aNil) [.hand, .val (lstW W), .no, .no, .no, .no, .no, .no, .no] (some st) = .ok (.int (w : Nat)) (some st) := opN_ok (cons_ok rfl rfl) (lenL (by rw [List.length_map]; exact wl))
    exact (par3M_nx (mown_ok (ds := []) rfl (mval_ok e1 (mval_ok e2 rfl)))).trans rfl
  rw [seq_nx s0]
  have cmp : ∀ (a : Nat), vLt (.int (a : Nat)) (.int 2) = some (.bl (decide (a < 2))) := fun a => by
    show some (D.bl (decide ((a : Int) < 2))) = _
    congr 2
    by_cases h : a < 2
    · rw [decide_eq_true h, decide_eq_true (by omega)]
    · rw [decide_eq_false h, decide_eq_false (by omega)]
  have tst : tOrD (tB2 (eOp2 vLt (eN 3) (eC (.int 2)))) (tB2 (eOp2 vLt (eN 4) (eC (.int 2)))) (envS7 W n w [] .no .no .no .no) (some st) = .ok (decide (n < 2) || decide (w < 2)) (some st) := or_ok (b2_ok (op2_ok (x := .int (n : Nat)) (y := .int 2) rfl rfl (cmp n))) (b2_ok (op2_ok (x := .int (w : Nat)) (y := .int 2) rfl rfl (cmp w))) (.inr rfl)
  by_cases hsm : n < 2 ∨ w < 2
  · have : (decide (n < 2) || decide (w < 2)) = true := by
      rcases hsm with h | h
      · rw [decide_eq_true h]; rfl
      · rw [decide_eq_true h, Bool.or_true]
    rw [this] at tst
    refine ⟨[], st, ?_, fun m h => (List.not_mem_nil h).elim, List.nodup_nil, Nat.zero_le _, hs⟩
    exact congrArg resH (seq_rt (d := .lst []) (s' := some st) ((if_t tst).trans rfl))
  · have : (decide (n < 2) || decide (w < 2)) = false := by
      rw [decide_eq_false (by omega), decide_eq_false (by omega)]
      rfl
    rw [this] at tst
    rw [seq_pass tst]
    obtain ⟨j, v, st1, e1, ev, hs1⟩ := pick_ok (ds := [.int 0, .int 1, .int 2, .int 3, .int 5, .int 9, .int 20]) (by decide) (by decide) hs
    have hv : ∃ k : Nat, v = .int (k : Nat) ∧ k ≤ 20 := by
      have := List.mem_of_getElem? ev
      simp only [List.mem_cons, List.not_mem_nil, or_false] at this
      rcases this with rfl | rfl | rfl | rfl | rfl | rfl | rfl
      · exact ⟨0, rfl, by decide⟩
      · exact ⟨1, rfl, by decide⟩
      · exact ⟨2, rfl, by decide⟩
      · exact ⟨3, rfl, by decide⟩
      · exact ⟨5, rfl, by decide⟩
      · exact ⟨9, rfl, by decide⟩
      · exact ⟨20, rfl, by decide⟩
    obtain ⟨k, rfl, hk⟩ := hv
    obtain ⟨M, st2, t5, t6, t7, t8, e2, hM, nd, l2, hs2⟩ := slits_for hh ok (by omega) (by omega) ((List.range k).map fun i => .int (i : Nat)) [] st1 .no .no .no .no (fun m h => (List.not_mem_nil h).elim) List.nodup_nil (by rw [List.length_map, List.length_range, List.length_nil]; omega) hs1 (.inl rfl) (.inl rfl) (.inl rfl)
    rw [List.length_map, List.length_range, List.length_nil] at l2
    refine ⟨M, st2, ?_, hM, nd, by omega, hs2⟩
    have rg : iRange rg1 (aCons (eCallH 0 1 F_l_pick (aCons (eOpN gLstD (aCons (eC (.int 0)) (aCons (eC (.int 1)) (aCons (eC (.int 2)) (aCons (eC (.int 3)) (aCons (eC (.int 5)) (aCons (eC (.int 9)) (aCons (eC (.int 20)) aNil)))))))) aNil)) aNil) (envS7 W n w [] .no .no .no .no) (some st) = .ok ((List.range k).map fun i => .int (i : Nat)) (some st1) :=
      range1 (n := k) (cons_ok (callH_ok rfl (cons_ok (opN_ok (ds := [.int 0, .int 1, .int 2, .int 3, .int 5, .int 9, .int 20]) rfl rfl) rfl) rfl e1) rfl) (by omega)
    rw [seq_for rg e2]
    rfl
end
end Vv
namespace Vv
section
variable {n w : Nat} {W : List (List Nat)} {M : List (Int × Int)}
structure Marks (M : List (Int × Int)) (n w : Nat) : Prop where
  ok : ∀ m ∈ M, OkMk n w m
  nd : M.Nodup
  len : M.length ≤ 900
theorem made_ok (ok : Lists [W] n w) (hM : Marks M n w) {q mk : D} (hq : SeqOf (W.map colD) q) (hm : SeqOf (M.map markD) mk) : F_Card___init__ [q, mk] = .ok (cardD W n (isort leP M)) none := by
  have wl := ok.wid W List.mem_cons_self
  exact card_init hq hm (by rw [wl]; exact ok.w1) (by rw [wl]; exact ok.w12) (fun l hl => (ok.good W List.mem_cons_self l hl).cnt) (by rw [wl]; exact hM.ok) hM.nd (by have := hM.len; omega)
theorem lcard17 (hcol : ∀ {l : List Nat} {n : Nat}, Good l n → 1 ≤ n → n ≤ 6 → F_Column___init__ [.str l] = .ok (colD l) none) (ok : Lists [W] n w) (hM : Marks M n w) : F_l_card [lstW W, .lst (M.map markD)] = .ok (cardD W n (isort leP M)) none := by
  have wl := ok.wid W List.mem_cons_self
  have w12 := ok.w12
  have f0 : F_l_card [lstW W, .lst (M.map markD)] = resP (b_l_card [.val (lstW W), .val (.lst (M.map markD)), .no] none) := by
    unfold F_l_card
    generalize b_l_card = z
    rfl
  rw [f0]
  unfold b_l_card
  refine Eq.trans (congrArg resP (ret_of (s1 := none) (d := cardD W n (isort leP M)) ?_)) rfl
  exact call_ok (m := 2) (t := none) (ds := [.lst (W.map colD), .lst (M.map markD)]) (cons_ok (lc_fn W D.str colD rfl (it_ok rfl rfl) (by omega) fun l hl => ⟨_, rfl, call_ok (F := F_Column___init__) (ds := [.str l]) (t := none) (cons_ok rfl rfl) rfl (hcol (ok.good W List.mem_cons_self l hl) ok.n1 ok.n6)⟩) (cons_ok rfl rfl)) rfl (made_ok ok hM .l .l)
end
end Vv
namespace Vv
end Vv
namespace Vv
end Vv
namespace Vv
theorem runP_rt {n : Nat} {g : Sf} {ds : List D} {ρ : En} {d : D} {s : S} (e : en0 n (ds.map .val) = ρ) (h : g ρ none = .rt d s) : runP n g ds = .ok d none := by
  unfold runP
  rw [e, h]
  rfl
theorem runP_nx {n : Nat} {g : Sf} {ds : List D} {ρ ρ' : En} {s : S} (e : en0 n (ds.map .val) = ρ) (h : g ρ none = .nx ρ' s) : runP n g ds = .ok .non none := by
  unfold runP
  rw [e, h]
  rfl
theorem runP_ex {n : Nat} {g : Sf} {ds : List D} {ρ ρ' : En} {c : Nat} {fs : List D} {s : S} (e : en0 n (ds.map .val) = ρ) (h : g ρ none = .exc c fs ρ' s) : runP n g ds = .exc c fs none := by
  unfold runP
  rw [e, h]
  rfl
theorem runH_rt {n : Nat} {g : Sf} {ds : List D} {ρ : En} {d : D} {st s : S} (e : en0 n (.hand :: ds.map .val) = ρ) (h : g ρ st = .rt d s) : runH n g ds st = .ok d s := by
  unfold runH
  rw [e, h]
  rfl
theorem andT_e {f g : Ef} {ρ : En} {s s1 s2 : S} {a b : Bool} (h1 : f ρ s = .ok (.bl a) s1) (h2 : g ρ s1 = .ok (.bl b) s2) (h3 : a = true ∨ s2 = s1) : eAnd f g ρ s = .ok (.bl (a && b)) s2 := by
  unfold eAnd
  rw [h1]
  cases a with
  | true => exact h2
  | false => rw [h3.resolve_left (by decide)]; rfl
theorem orT_e {f g : Ef} {ρ : En} {s s1 s2 : S} {a b : Bool} (h1 : f ρ s = .ok (.bl a) s1) (h2 : g ρ s1 = .ok (.bl b) s2) (h3 : a = false ∨ s2 = s1) : eOr f g ρ s = .ok (.bl (a || b)) s2 := by
  unfold eOr
  rw [h1]
  cases a with
  | false => exact h2
  | true => rw [h3.resolve_left (by decide)]; rfl
theorem isiT_ok {cs : List Nat} {fx : Ef} {fc : Af} {ρ : En} {s s1 s2 : S} {x d : D} {ts : List D} (h1 : fx ρ s = .ok x s1) (h2 : fc ρ s1 = .ok ts s2) (h3 : isiT cs x ts = some d) : eIsiT cs fx fc ρ s = .ok d s2 := by
  unfold eIsiT
  rw [h1]
  show (fc ρ s1).bind _ = _
  rw [h2]
  show opt (isiT cs x ts) s2 = _
  rw [h3]
  rfl
theorem tU_ok {f : Tf} {ρ : En} {s s1 : S} {b : Bool} (no : noOb ρ = true) (h : f (ρ.map frzS) s = .ok b s1) : tU f ρ s = .ok b s1 := by
  unfold tU
  rw [no, if_pos rfl, h]
  rfl
theorem if_e {c : Tf} {f g : Ef} {ρ : En} {s s1 : S} {b : Bool} {r : R D} (h1 : c ρ s = .ok b s1) (h2 : (if b then f ρ s1 else g ρ s1) = r) : eIf c f g ρ s = r := by
  unfold eIf
  rw [h1]
  exact h2
theorem methK_ok {c : Nat} {F : D → List D → R D} {fo : Ef} {fa : Af} {fk : Ef} {ρ : En} {s s1 s2 s3 t : S} {x m d : D} {ds : List D} (h1 : fo ρ s = .ok x s1) (hc : isC c x = true) (h2 : fa ρ s1 = .ok ds s2) (h3 : fk ρ s2 = .ok m s3) (h4 : F m (x :: ds) = .ok d t) : eMethK c F fo fa fk ρ s = .ok d s3 := by
  unfold eMethK
  rw [h1]
  show (if isC c x then _ else _) = _
  rw [hc, if_pos rfl, h2]
  show (fk ρ s2).bind _ = _
  rw [h3]
  show pickP (F m) (x :: ds) s3 = _
  unfold pickP
  rw [h4]
theorem if_T {c : Tf} {a b : Sf} {ρ : En} {s s1 : S} (h1 : c ρ s = .ok true s1) : sIf c a b ρ s = a ρ s1 := by
  unfold sIf
  rw [h1]
  rfl
theorem if_F {c : Tf} {a b : Sf} {ρ : En} {s s1 : S} (h1 : c ρ s = .ok false s1) : sIf c a b ρ s = b ρ s1 := by
  unfold sIf
  rw [h1]
  rfl
theorem g1_ok {g : D → Option D} {x d : D} (h : g x = some d) : g1 g [x] = some d := h
theorem em1X {g : D → D → Option D} {fo fa : Ef} {ρ : En} {s s1 s2 : S} {l : List Nat} {y d : D} (h1 : fo ρ s = .ok (.str l) s1) (h2 : fa ρ s1 = .ok y s2) (h3 : g (.str l) y = some d) : eM1 g fo fa ρ s = .ok d s2 := by
  unfold eM1
  rw [h1]
  show (fa ρ s1).bind _ = _
  rw [h2]
  show opt (g (.str l) y) s2 = _
  rw [h3]
  rfl
theorem notX {f : Tf} {ρ : En} {s s1 : S} {a b : Bool} (h1 : f ρ s = .ok a s1) (e : (!a) = b) : tNotD f ρ s = .ok b s1 := e ▸ not_ok h1
theorem andX {f g : Tf} {ρ : En} {s s1 s2 : S} {a b c : Bool} (h1 : f ρ s = .ok a s1) (h2 : g ρ s1 = .ok b s2) (h3 : a = true ∨ s2 = s1) (e : (a && b) = c) : tAndD f g ρ s = .ok c s2 := e ▸ and_ok h1 h2 h3
theorem orX {f g : Tf} {ρ : En} {s s1 s2 : S} {a b c : Bool} (h1 : f ρ s = .ok a s1) (h2 : g ρ s1 = .ok b s2) (h3 : a = false ∨ s2 = s1) (e : (a || b) = c) : tOrD f g ρ s = .ok c s2 := e ▸ or_ok h1 h2 h3
theorem andEX {f g : Ef} {ρ : En} {s s1 s2 : S} {a b : Bool} {d : D} (h1 : f ρ s = .ok (.bl a) s1) (h2 : g ρ s1 = .ok (.bl b) s2) (h3 : a = true ∨ s2 = s1) (e : .bl (a && b) = d) : eAnd f g ρ s = .ok d s2 := e ▸ andT_e h1 h2 h3
theorem orEX {f g : Ef} {ρ : En} {s s1 s2 : S} {a b : Bool} {d : D} (h1 : f ρ s = .ok (.bl a) s1) (h2 : g ρ s1 = .ok (.bl b) s2) (h3 : a = false ∨ s2 = s1) (e : .bl (a || b) = d) : eOr f g ρ s = .ok d s2 := e ▸ orT_e h1 h2 h3
theorem chainX {g g' : D → D → Option D} {fa fb fc : Ef} {ρ : En} {s s1 s2 : S} {x y w d : D} {a b : Bool} (h1 : fa ρ s = .ok x s1) (h2 : fb ρ s1 = .ok y s2) (e1 : g x y = some (.bl a)) (h3 : fc ρ s2 = .ok w s2) (e2 : g' y w = some (.bl b)) (e : .bl (a && b) = d) : eChain g g' fa fb fc ρ s = .ok d s2 := e ▸ chain_ok h1 h2 h3 e1 e2
theorem enumX {fa : Af} {ρ : En} {s s1 : S} {d : D} {ds r : List D} (h1 : fa ρ s = .ok [d] s1) (h2 : itD d = some ds) (e : enumF 0 ds = r) : iEnum fa ρ s = .ok r s1 := e ▸ enum_ok h1 h2
theorem starX {fe : Ef} {fr : Af} {ρ : En} {s s1 s2 : S} {d : D} {b : Bool} {l xs r : List D} (h1 : fe ρ s = .ok d s1) (h2 : seqD d = some (b, l)) (h3 : fr ρ s1 = .ok xs s2) (e : l ++ xs = r) : aStar fe fr ρ s = .ok r s2 := e ▸ star_ok h1 h2 h3
theorem consX {fa : Ef} {fr : Af} {ρ : En} {s s1 s2 : S} {x : D} {xs r : List D} (h1 : fa ρ s = .ok x s1) (h2 : fr ρ s1 = .ok xs s2) (e : x :: xs = r) : aCons fa fr ρ s = .ok r s2 := e ▸ cons_ok h1 h2
theorem ofX {f : Lf} {ρ : En} {s s1 : S} {ds : List D} {d : D} (h : f ρ s = .ok ds s1) (e : .lst ds = d) : eOf f ρ s = .ok d s1 := e ▸ of_ok h
end Vv
set_option hygiene false in
local macro_rules | `(tactic| walk_at "x") => `(tactic| first
  | (with_reducible assumption)
  | ((with_reducible apply Vv.op2_ok) <;> try walk_at "x")
  | ((with_reducible apply Vv.un_ok) <;> try walk_at "x")
  | ((with_reducible apply Vv.opN_ok) <;> try walk_at "x")
  | ((with_reducible apply Vv.consX) <;> try walk_at "x")
  | ((with_reducible apply Vv.call_ok) <;> try walk_at "x")
  | ((with_reducible apply Vv.callD_ok) <;> try walk_at "x")
  | ((with_reducible apply Vv.callH_ok) <;> try walk_at "x")
  | ((with_reducible apply Vv.meth_ok) <;> try walk_at "x")
  | ((with_reducible apply Vv.methK_ok) <;> try walk_at "x")
  | ((with_reducible apply Vv.methD_ok) <;> try walk_at "x")
  | ((with_reducible apply Vv.em1X) <;> try walk_at "x")
  | ((with_reducible apply Vv.prop_ok) <;> try walk_at "x")
  | ((with_reducible apply Vv.ofX) <;> try walk_at "x")
  | ((with_reducible apply Vv.sl_ok) <;> try walk_at "x")
  | ((with_reducible apply Vv.some_ok) <;> try walk_at "x")
  | ((with_reducible apply Vv.t_ok) <;> try walk_at "x")
  | ((with_reducible apply Vv.b2_ok) <;> try walk_at "x")
  | ((with_reducible apply Vv.notX) <;> try walk_at "x")
  | ((with_reducible apply Vv.andX) <;> try walk_at "x")
  | ((with_reducible apply Vv.orX) <;> try walk_at "x")
  | ((with_reducible apply Vv.andEX) <;> try walk_at "x")
  | ((with_reducible apply Vv.orEX) <;> try walk_at "x")
  | ((with_reducible apply Vv.isiT_ok) <;> try walk_at "x")
  | ((with_reducible apply Vv.chainX) <;> try walk_at "x")
  | ((with_reducible apply Vv.tU_ok) <;> try walk_at "x")
  | ((with_reducible apply Vv.size_ok) <;> try walk_at "x")
  | ((with_reducible apply Vv.it_ok) <;> try walk_at "x")
  | ((with_reducible apply Vv.enumX) <;> try walk_at "x")
  | ((with_reducible apply Vv.starX) <;> try walk_at "x")
  | (with_reducible exact Or.inr rfl)
  | (with_reducible exact Or.inl rfl)
  | ((with_reducible apply Vv.g1_ok) <;> walk_at "x")
  | exact rfl
  | assumption
  | (simp only [*, Bool.not_true, Bool.not_false, Bool.true_or, Bool.false_or, Bool.or_false, Bool.or_true, Bool.and_true, Bool.true_and, Bool.false_and, Bool.and_false]; done))
set_option hygiene false in
local macro_rules | `(tactic| walk_at "a") => `(tactic| (refine Eq.trans (Vv.seq_asg (by walk_at "x")) ?_; dsimp only [List.set]))
namespace Vv
theorem sizes_ok17 {st : HS} (hs : hsOk st = true) : ∃ (n w : Nat) (st' : HS), F_l_sizes [] (some st) = .ok (.tup [.int (n : Nat), .int (w : Nat)]) (some st') ∧ 1 ≤ n ∧ n ≤ 6 ∧ 1 ≤ w ∧ w ≤ 12 ∧ hsOk st' = true := by
  obtain ⟨j1, d1, st1, e1, h1, hs1⟩ := pick_ok (ds := [.int 3, .int 2, .int 4, .int 3, .int 2, .int 4, .int 3, .int 1, .int 5, .int 6]) (by simp) (by simp) hs
  obtain ⟨j2, d2, st2, e2, h2, hs2⟩ := pick_ok (ds := [.int 2, .int 3, .int 4, .int 3, .int 2, .int 5, .int 1, .int 4, .int 7, .int 12]) (by simp) (by simp) hs1
  have v1 : ∃ k : Nat, d1 = .int (k : Nat) ∧ 1 ≤ k ∧ k ≤ 6 := by
    have := List.mem_of_getElem? h1
    simp only [List.mem_cons, List.not_mem_nil, or_false] at this
    rcases this with rfl | rfl | rfl | rfl | rfl | rfl | rfl | rfl | rfl | rfl
    · exact ⟨3, rfl, by decide, by decide⟩
    · exact ⟨2, rfl, by decide, by decide⟩
    · exact ⟨4, rfl, by decide, by decide⟩
    · exact ⟨3, rfl, by decide, by decide⟩
    · exact ⟨2, rfl, by decide, by decide⟩
    · exact ⟨4, rfl, by decide, by decide⟩
    · exact ⟨3, rfl, by decide, by decide⟩
    · exact ⟨1, rfl, by decide, by decide⟩
    · exact ⟨5, rfl, by decide, by decide⟩
    · exact ⟨6, rfl, by decide, by decide⟩
  have v2 : ∃ k : Nat, d2 = .int (k : Nat) ∧ 1 ≤ k ∧ k ≤ 12 := by
    have := List.mem_of_getElem? h2
    simp only [List.mem_cons, List.not_mem_nil, or_false] at this
    rcases this with rfl | rfl | rfl | rfl | rfl | rfl | rfl | rfl | rfl | rfl
    · exact ⟨2, rfl, by decide, by decide⟩
    · exact ⟨3, rfl, by decide, by decide⟩
    · exact ⟨4, rfl, by decide, by decide⟩
    · exact ⟨3, rfl, by decide, by decide⟩
    · exact ⟨2, rfl, by decide, by decide⟩
    · exact ⟨5, rfl, by decide, by decide⟩
    · exact ⟨1, rfl, by decide, by decide⟩
    · exact ⟨4, rfl, by decide, by decide⟩
    · exact ⟨7, rfl, by decide, by decide⟩
    · exact ⟨12, rfl, by decide, by decide⟩
  obtain ⟨n, rfl, n1, n6⟩ := v1
  obtain ⟨w, rfl, w1, w12⟩ := v2
  refine ⟨n, w, st2, runH_rt (ρ := [.hand, .no]) rfl ?_, n1, n6, w1, w12, hs2⟩
  unfold b_l_sizes
  walk_at "a"
  exact ret_of (s1 := some st2) (by walk_at "x")
end Vv
namespace Vv
end Vv
namespace Vv
abbrev nsD (l : List Nat) : List D := l.map fun i => .int (i : Nat)
end Vv
namespace Vv
section
variable {n w : Nat} {W : List (List Nat)} {A : List (Int × Int)}
theorem small_nat {m : Nat} (h : m ≤ 1000000) : small64 (m : Int) = true := by
  have e : (2 : Int) ^ 64 = 18446744073709551616 := by decide
  unfold small64
  rw [e]
  simp only [Bool.and_eq_true, decide_eq_true_eq]
  omega
theorem mulN {i : Int} {m : Nat} (h : m ≤ 1000000) : vI gMul (.int i) (.int (m : Nat)) = some (.int (i * (m : Int))) := by
  show (gMul i (m : Int)).map D.int = _
  unfold gMul
  rw [small_nat h, Bool.or_true, if_pos rfl]
  rfl
end
end Vv
namespace Vv
section
variable {n w : Nat} {W : List (List Nat)} {A : List (Int × Int)}
theorem for_of15 {it : Af} {gt : D → En → Option En} {b : Sf} {ρ : En} {s s1 : S} {ds : List D} {r : SR} (h1 : it ρ s = .ok ds s1) (h2 : loopD gt b ds ρ s1 = r) : sFor it gt b ρ s = r := by
  unfold sFor
  rw [h1]
  exact h2
end
end Vv
namespace Vv
section
variable {n w : Nat} {W : List (List Nat)} {A : List (Int × Int)} {r : Nat → Nat}
theorem fit_small {k : Nat} (h : k ≤ 1000) : fit k = true := by unfold fit; simp; omega
end
end Vv
namespace Vv
end Vv
namespace Vv
end Vv
namespace Vv
theorem app_nx {i : Nat} {f : Ef} {ρ : En} {s s1 : S} {ds : List D} {d : D} (h : ρ[i]? = some (.own ds)) (h1 : f ρ s = .ok d s1) (hf : ds.length ≤ 1000) : sApp i f ρ s = .nx (ρ.set i (.own (ds ++ [d]))) s1 := by
  unfold sApp
  rw [h]
  show (f ρ s).then _ _ = _
  rw [h1]
  show (if fit ds.length then _ else _) = _
  rw [if_pos (fit_small hf)]
end Vv
namespace Vv
section
variable {n w : Nat} {W : List (List Nat)} {M : List (Int × Int)}
def ltr (W : List (List Nat)) (c t : Nat) : Nat := (W.getD c []).getD t 0
end
end Vv
namespace Vv
section
variable {n w : Nat} {W : List (List Nat)} {M : List (Int × Int)}
structure Sized (W : List (List Nat)) (n : Nat) : Prop where
  n1 : 1 ≤ n
  n6 : n ≤ 6
  w1 : 1 ≤ W.length
  w12 : W.length ≤ 12
  good : ∀ l ∈ W, Good l n
theorem Sized.g (Z : Sized W n) {c : Nat} (h : c < W.length) : Good (W.getD c []) n := Z.good _ (getD_mem [] h)
theorem Sized.let2 (Z : Sized W n) {c t : Nat} (hc : c < W.length) (ht : t < 2 * n) : ltr W c t = 100 ∨ ltr W c t = 111 := good_at (Z.g hc) ht
theorem Sized.len (Z : Sized W n) {c : Nat} (h : c < W.length) : (W.getD c []).length = 2 * n := (Z.g h).len
theorem ix_word {c : Nat} (h : c < W.length) : vIx (lstW W) (.int (c : Nat)) = some (.str (W.getD c [])) := ix_lst (getD_map D.str [] h)
theorem Sized.ixl (Z : Sized W n) {c t : Nat} (hc : c < W.length) (ht : t < 2 * n) : vIx (.str (W.getD c [])) (.int (t : Nat)) = some (.str [ltr W c t]) := ix_str (by rw [Z.len hc]; exact ht) (by rw [Z.len hc]; have := Z.n6; omega)
end
end Vv
namespace Vv
end Vv
namespace Vv
end Vv
namespace Vv
def plO (l : List Nat) (t : Nat) : Int := ((l.take t).count 111 : Nat)
def plD (l : List Nat) (t : Nat) : Int := (l.count 100 : Nat) - ((l.take t).count 100 : Nat)
end Vv
namespace Vv
section
variable {n w : Nat} {W : List (List Nat)} {M A : List (Int × Int)} {r : Nat → Nat} {m : Nat}
theorem lnum (a b : Int) : F_l_number [.int a, .int b] = .ok (.bl (a == b)) none := rfl
theorem pl_ns {j : Nat} (L : List Nat) : (nsD L).all (pl j) = true := List.all_eq_true.mpr fun d hd => by
  obtain ⟨x, _, rfl⟩ := List.mem_map.mp hd
  cases j <;> rfl
end
end Vv
namespace Vv
section
variable {n w : Nat} {W : List (List Nat)} {M A : List (Int × Int)} {r : Nat → Nat} {m : Nat}
theorem lnum_same (a : Int) : F_l_number [.int a, .int a] = .ok (.bl true) none := (lnum a a).trans (by rw [beq_self_eq_true])
end
end Vv
namespace Vv
end Vv
namespace Vv
section
variable {n w : Nat} {W : List (List Nat)} {M A : List (Int × Int)} {r r' : Nat → Nat} {m : Nat}
theorem whole_in {a k : Nat} (h : a < k) : F_is_whole [.int (a : Nat), .int 0, .int ((k : Int) - 1)] = .ok (.bl true) none := by
  rw [is_whole_int, decide_eq_true (by omega), decide_eq_true (by omega)]
  rfl
theorem call_ex15 {m : Nat} {F : List D → R D} {fa : Af} {ρ : En} {s s1 t : S} {ds fs : List D} {c : Nat} (h1 : fa ρ s = .ok ds s1) (hl : ds.length = m) (h2 : F ds = .exc c fs t) : eCall m F fa ρ s = .exc c fs s1 := by
  unfold eCall
  rw [h1]
  show (if ds.length = m then pickP F ds s1 else .bad) = _
  rw [if_pos hl]
  unfold pickP
  rw [h2]
end
end Vv
namespace Vv
section
variable {n w : Nat} {W : List (List Nat)} {M A : List (Int × Int)} {r r' : Nat → Nat} {m : Nat}
theorem marks_nil : Marks [] n w := ⟨(fun _ h => nomatch h), List.nodup_nil, by simp⟩
end
end Vv
namespace Vv
section
variable {n w : Nat} {W : List (List Nat)} {M A : List (Int × Int)} {r r' : Nat → Nat} {m : Nat}
theorem odd_ok {k : Nat} (h6 : k ≤ 12) {e : List Nat} {c : Nat} {d : D} (he : e = [48] ∨ e = [49]) (h : [D.int (-1), .int (k : Nat), .non, .str e, .bl true, .int (10 ^ 20)][c]? = some d) : F_is_whole [d, .int 0, .int ((k : Int) - 1)] = .ok (.bl false) none ∧ vEq d d = some (.bl true) := by
  have := List.mem_of_getElem? h
  simp only [List.mem_cons, List.not_mem_nil, or_false] at this
  rcases this with rfl | rfl | rfl | rfl | rfl | rfl
  · exact ⟨by rw [is_whole_int]; rfl, rfl⟩
  · exact ⟨by rw [is_whole_int, decide_eq_false (p := ((k : Nat) : Int) ≤ (k : Int) - 1) (by omega), Bool.and_false], by
      show some (D.bl (((k : Nat) : Int) == ((k : Nat) : Int))) = _
      rw [beq_self_eq_true]⟩
  · exact ⟨rfl, rfl⟩
  · rcases he with rfl | rfl <;> exact ⟨rfl, rfl⟩
  · exact ⟨rfl, rfl⟩
  · exact ⟨by rw [is_whole_int, decide_eq_false (p := (10 ^ 20 : Int) ≤ (k : Int) - 1) (by omega), Bool.and_false], rfl⟩
end
end Vv
namespace Vv
def layG (n : Int) : Int → List Nat → List Int
  | _, [] => []
  | h, c :: r => (n - (if c = 100 then h + 1 else h)) :: layG n (if c = 100 then h + 1 else h - 1) r
def stG (k : Int) : Nat → List Int → List Nat
  | _, [] => []
  | i, x :: r => if x == k then i :: stG k (i + 1) r else stG k (i + 1) r
def layL (l : List Nat) : List Int := layG ((l.length / 2 : Nat) : Int) 0 l
def stL (l : List Nat) (k : Nat) : List Nat := stG (k : Int) 0 (layL l)
def midX (l : List Nat) (t : Nat) : Int := plO l t + plO l (t + 1)
def midY (l : List Nat) (t : Nat) : Int := plD l t + plD l (t + 1)
def midD (l : List Nat) (t : Nat) : D := .tup [.int (midX l t), .int (midY l t)]
def sideD (l : List Nat) (t : Nat) : D := if l.getD t 0 = 100 then .str [112, 114, 105, 110, 116] else .str [98, 108, 97, 110, 107]
def tchD (l : List Nat) : List Nat → List D
  | s :: t :: r => .tup [.int (s : Nat), .int (t : Nat), sideD l s] :: tchD l (t :: r)
  | _ => []
def forceL : List Nat → (List Nat → Bool) → Bool
  | [], f => f []
  | x :: r, f => forceL r fun r' => f (x :: r')
theorem forceL_eq : ∀ (l : List Nat) (f : List Nat → Bool), forceL l f = f l
  | [], _ => rfl
  | x :: r, f => by rw [forceL, forceL_eq r]
def wfC (l : List Nat) (k : Nat) (st : List Nat) : Bool :=
  okIs (F_l_steps [.str l, .int (k : Nat)]) (.lst (nsD st)) && okIs (F_l_middles [.str l, .lst (nsD st)]) (.lst (st.map (midD l))) &&
  okIs (F_l_touching [.str l, .lst (nsD st)]) (.lst (tchD l st)) && (st.all fun t => okIs (F_middle_of [colD l, .int (t : Nat)]) (midD l t)) &&
  (st.all fun t => decide (midX l t + midY l t = 2 * (k : Int) + 1)) && ((List.range st.length).all fun i => decide (i = 0 ∨ midX l (st.getD (i - 1) 0) < midX l (st.getD i 0))) &&
  decide (st.map (fun t => l.getD t 0) = (List.replicate (st.length / 2) [100, 111]).flatten) && decide (st.length % 2 = 0)
def wfB (l : List Nat) (k : Nat) : Bool := forceL (stL l k) (wfC l k)
def wgB (l : List Nat) : Bool :=
  okIs (F_step_layers [colD l]) (.lst ((layL l).map .int)) && okIs (opt (sortD (.lst (nsD ((List.range (l.length / 2)).flatMap (stL l))))) none) (.lst (nsD (List.range l.length))) &&
  okIs (F_l_heights [.str l]) (.lst (intsD (htsF 0 l)))
theorem chunk50 (f : List Nat → Bool) (k : Nat) : (allWords.drop k).all f = (((allWords.drop k).take 20).all f && (allWords.drop (k + 20)).all f) := by
  rw [← List.all_append, ← List.drop_drop, List.take_append_drop]
theorem last50 (f : List Nat → Bool) : (allWords.drop 200).all f = true := by
  have : allWords.drop 200 = [] := List.drop_eq_nil_of_le (by decide +kernel)
  rw [this]
  rfl
theorem all50 {f : List Nat → Bool} (h : ∀ i, i < 10 → ((allWords.drop (20 * i)).take 20).all f = true) : allWords.all f = true := by
  have e : allWords.all f = (allWords.drop 0).all f := rfl
  rw [e, chunk50, h 0 (by decide), Bool.true_and, chunk50, h 1 (by decide), Bool.true_and, chunk50, h 2 (by decide), Bool.true_and, chunk50, h 3 (by decide), Bool.true_and, chunk50, h 4 (by decide), Bool.true_and, chunk50, h 5 (by decide), Bool.true_and, chunk50, h 6 (by decide), Bool.true_and, chunk50, h 7 (by decide), Bool.true_and, chunk50, h 8 (by decide), Bool.true_and, chunk50, h 9 (by decide), Bool.true_and]
  exact last50 f
def wfK (l : List Nat) : Bool := (List.range (l.length / 2)).all (wfB l)
set_option maxHeartbeats 4000000 in
theorem wf_0 : ((allWords.drop (20 * 0)).take 20).all wfK = true := by decide +kernel
set_option maxHeartbeats 4000000 in
theorem wf_1 : ((allWords.drop (20 * 1)).take 20).all wfK = true := by decide +kernel
set_option maxHeartbeats 4000000 in
theorem wf_2 : ((allWords.drop (20 * 2)).take 20).all wfK = true := by decide +kernel
set_option maxHeartbeats 4000000 in
theorem wf_3 : ((allWords.drop (20 * 3)).take 20).all wfK = true := by decide +kernel
set_option maxHeartbeats 4000000 in
theorem wf_4 : ((allWords.drop (20 * 4)).take 20).all wfK = true := by decide +kernel
set_option maxHeartbeats 4000000 in
theorem wf_5 : ((allWords.drop (20 * 5)).take 20).all wfK = true := by decide +kernel
set_option maxHeartbeats 4000000 in
theorem wf_6 : ((allWords.drop (20 * 6)).take 20).all wfK = true := by decide +kernel
set_option maxHeartbeats 4000000 in
theorem wf_7 : ((allWords.drop (20 * 7)).take 20).all wfK = true := by decide +kernel
set_option maxHeartbeats 4000000 in
theorem wf_8 : ((allWords.drop (20 * 8)).take 20).all wfK = true := by decide +kernel
set_option maxHeartbeats 4000000 in
theorem wf_9 : ((allWords.drop (20 * 9)).take 20).all wfK = true := by decide +kernel
theorem wf_all : allWords.all wfK = true := all50 fun i hi => by
  match i, hi with
  | 0, _ => exact wf_0
  | 1, _ => exact wf_1
  | 2, _ => exact wf_2
  | 3, _ => exact wf_3
  | 4, _ => exact wf_4
  | 5, _ => exact wf_5
  | 6, _ => exact wf_6
  | 7, _ => exact wf_7
  | 8, _ => exact wf_8
  | 9, _ => exact wf_9
theorem wg_all : allWords.all wgB = true := by decide +kernel
end Vv
namespace Vv
section
variable {n w k : Nat} {W : List (List Nat)} {A : List (Int × Int)} {l : List Nat}
structure WF (l : List Nat) (k : Nat) : Prop where
  steps : F_l_steps [.str l, .int (k : Nat)] = .ok (.lst (nsD (stL l k))) none
  mids : F_l_middles [.str l, .lst (nsD (stL l k))] = .ok (.lst ((stL l k).map (midD l))) none
  tchs : F_l_touching [.str l, .lst (nsD (stL l k))] = .ok (.lst (tchD l (stL l k))) none
  mof : ∀ t ∈ stL l k, F_middle_of [colD l, .int (t : Nat)] = .ok (midD l t) none
  sum : ∀ t ∈ stL l k, midX l t + midY l t = 2 * (k : Int) + 1
  inc : ∀ i, i < (stL l k).length → i = 0 ∨ midX l ((stL l k).getD (i - 1) 0) < midX l ((stL l k).getD i 0)
  dod : (stL l k).map (fun t => l.getD t 0) = (List.replicate ((stL l k).length / 2) [100, 111]).flatten
  even : (stL l k).length % 2 = 0
theorem wf_ok (g : Good l n) (h1 : 1 ≤ n) (h6 : n ≤ 6) (hk : k < n) : WF l k := by
  have e := g.by h1 h6 _ wf_all
  unfold wfK at e
  have e := List.all_eq_true.mp e k (List.mem_range.mpr (by rw [g.len]; omega))
  unfold wfB at e
  rw [forceL_eq] at e
  unfold wfC at e
  simp only [Bool.and_eq_true, List.all_eq_true, decide_eq_true_eq, List.mem_range] at e
  obtain ⟨⟨⟨⟨⟨⟨⟨e1, e2⟩, e3⟩, e4⟩, e5⟩, e6⟩, e7⟩, e8⟩ := e
  exact ⟨okIs_eq e1, okIs_eq e2, okIs_eq e3, fun t ht => okIs_eq (e4 t ht), e5, e6, e7, e8⟩
structure WG (l : List Nat) : Prop where
  lay : F_step_layers [colD l] = .ok (.lst ((layL l).map .int)) none
  srt : sortD (.lst (nsD ((List.range (l.length / 2)).flatMap (stL l)))) = some (.lst (nsD (List.range l.length)))
  hts : F_l_heights [.str l] = .ok (.lst (intsD (htsF 0 l))) none
theorem opt_some {o : Option D} {d : D} {s : S} (h : opt o s = .ok d s) : o = some d := by
  cases o with
  | none => cases h
  | some x => cases h; rfl
theorem wg_ok (g : Good l n) (h1 : 1 ≤ n) (h6 : n ≤ 6) : WG l := by
  have e := g.by h1 h6 _ wg_all
  unfold wgB at e
  simp only [Bool.and_eq_true] at e
  exact ⟨okIs_eq e.1.1, opt_some (okIs_eq e.1.2), okIs_eq e.2⟩
theorem layG_len : ∀ (l : List Nat) (m h : Int), (layG m h l).length = l.length
  | [], _, _ => rfl
  | c :: r, m, h => by rw [layG, List.length_cons, List.length_cons, layG_len r]
theorem stG_mem {k : Int} : ∀ {xs : List Int} {i t : Nat}, t ∈ stG k i xs → i ≤ t ∧ xs[t - i]? = some k
  | [], _, _, h => nomatch h
  | x :: r, i, t, h => by
    unfold stG at h
    by_cases e : (x == k) = true
    · rw [if_pos e] at h
      rcases List.mem_cons.mp h with rfl | h
      · exact ⟨Nat.le_refl _, by rw [Nat.sub_self]; exact congrArg some (eq_of_beq e)⟩
      · obtain ⟨a, b⟩ := stG_mem h
        exact ⟨by omega, by rw [show t - i = (t - (i + 1)) + 1 by omega]; exact b⟩
    · rw [if_neg e] at h
      obtain ⟨a, b⟩ := stG_mem h
      exact ⟨by omega, by rw [show t - i = (t - (i + 1)) + 1 by omega]; exact b⟩
theorem stL_mem {t : Nat} (h : t ∈ stL l k) : t < l.length ∧ (layL l)[t]? = some (k : Int) := by
  obtain ⟨_, b⟩ := stG_mem h
  rw [Nat.sub_zero] at b
  have := (List.getElem?_eq_some_iff.mp b).1
  unfold layL at this
  rw [layG_len] at this
  exact ⟨this, b⟩
theorem stG_len {k : Int} : ∀ (xs : List Int) (i : Nat), (stG k i xs).length ≤ xs.length
  | [], _ => Nat.le_refl _
  | x :: r, i => by
    unfold stG
    split
    · rw [List.length_cons, List.length_cons]; have := stG_len (k := k) r (i + 1); omega
    · rw [List.length_cons]; have := stG_len (k := k) r (i + 1); omega
theorem stL_len : (stL l k).length ≤ l.length := by
  have := stG_len (k := (k : Int)) (layL l) 0
  unfold layL at this
  rw [layG_len] at this
  exact this
end
end Vv
namespace Vv
section
variable {n w k : Nat} {W : List (List Nat)} {A : List (Int × Int)} {l : List Nat}
theorem seq_ex19 {a g : Sf} {ρ ρ' : En} {s s' : S} {c : Nat} {fs : List D} (h : a ρ s = .exc c fs ρ' s') : sSeq a g ρ s = .exc c fs ρ' s' := by
  unfold sSeq
  rw [h]
  rfl
theorem check_col {d : D} {b : Bool} (h : F_is_whole [d, .int 0, .int ((W.length : Int) - 1)] = .ok (.bl b) none) : F_check_column [cardD W n A, d] = if b then .ok .non none else .exc 3 [d] none := by
  have test : (tNotD (tT (eCall 3 F_is_whole (aCons (eN 1) (aCons (eC (.int 0)) (aCons (eOp2 vSub (eOp1 (fldD 1 2) (eN 0)) (eC (.int 1))) aNil)))))) [.val (cardD W n A), .val d] none = .ok (!b) none :=
    notX (t_ok (d := .bl b) (s1 := none) (call_ok (ds := [d, .int 0, .int ((W.length : Int) - 1)]) (cons_ok rfl (cons_ok rfl (cons_ok (s1 := none) (op2_ok (x := .int (W.length : Nat)) (y := .int 1) rfl rfl rfl) rfl))) rfl h) rfl) rfl
  cases b with
  | true =>
    refine runP_nx (ρ := [.val (cardD W n A), .val d]) (ρ' := [.val (cardD W n A), .val d]) (s := none) rfl ?_
    unfold b_check_column
    exact if_pass test
  | false =>
    refine runP_ex (ρ := [.val (cardD W n A), .val d]) (ρ' := [.val (cardD W n A), .val d]) (s := none) rfl ?_
    unfold b_check_column
    refine (if_T test).trans ?_
    rfl
theorem check_lay {dc dk : D} {a b : Bool} (ha : F_is_whole [dc, .int 0, .int ((W.length : Int) - 1)] = .ok (.bl a) none) (hb : F_is_whole [dk, .int 0, .int ((n : Int) - 1)] = .ok (.bl b) none) : F_check_layer [cardD W n A, dc, dk] = if a then (if b then .ok .non none else .exc 66 [dk] none) else .exc 3 [dc] none := by
  have c := check_col (n := n) (A := A) ha
  have test : (tNotD (tT (eCall 3 F_is_whole (aCons (eN 2) (aCons (eC (.int 0)) (aCons (eOp2 vSub (eAlt (eOp1 (fldD 0 1) (eN 0)) (eOp1 (fldD 1 1) (eN 0))) (eC (.int 1))) aNil)))))) [.val (cardD W n A), .val dc, .val dk] none = .ok (!b) none :=
    notX (t_ok (d := .bl b) (s1 := none) (call_ok (ds := [dk, .int 0, .int ((n : Int) - 1)]) (cons_ok rfl (cons_ok rfl (cons_ok (s1 := none) (op2_ok (x := .int (n : Nat)) (y := .int 1) rfl rfl rfl) rfl))) rfl hb) rfl) rfl
  cases a with
  | false =>
    refine runP_ex (ρ := [.val (cardD W n A), .val dc, .val dk]) (ρ' := [.val (cardD W n A), .val dc, .val dk]) (s := none) rfl ?_
    unfold b_check_layer
    refine seq_ex19 ?_
    have e : (eCall 2 F_check_column (aCons (eN 0) (aCons (eN 1) aNil))) [.val (cardD W n A), .val dc, .val dk] none = .exc 3 [dc] none := call_ex15 (ds := [cardD W n A, dc]) (s1 := none) (cons_ok rfl (cons_ok rfl rfl)) rfl c
    unfold sExpr
    rw [e]
    rfl
  | true =>
    have ex : (sExpr (eCall 2 F_check_column (aCons (eN 0) (aCons (eN 1) aNil)))) [.val (cardD W n A), .val dc, .val dk] none = .nx [.val (cardD W n A), .val dc, .val dk] none := by
      have e : (eCall 2 F_check_column (aCons (eN 0) (aCons (eN 1) aNil))) [.val (cardD W n A), .val dc, .val dk] none = .ok .non none := call_ok (ds := [cardD W n A, dc]) (s1 := none) (cons_ok rfl (cons_ok rfl rfl)) rfl c
      unfold sExpr
      rw [e]
      rfl
    cases b with
    | true =>
      refine runP_nx (ρ := [.val (cardD W n A), .val dc, .val dk]) (ρ' := [.val (cardD W n A), .val dc, .val dk]) (s := none) rfl ?_
      unfold b_check_layer
      exact (seq_nx ex).trans (if_pass test)
    | false =>
      refine runP_ex (ρ := [.val (cardD W n A), .val dc, .val dk]) (ρ' := [.val (cardD W n A), .val dc, .val dk]) (s := none) rfl ?_
      unfold b_check_layer
      exact (seq_nx ex).trans ((if_T test).trans rfl)
end
end Vv
namespace Vv
section
variable {n w k : Nat} {W : List (List Nat)} {A : List (Int × Int)} {l : List Nat}
theorem lay_lc {ρ : En} {k : Nat} (h2 : ∀ x y : Sl, ((ρ.set 3 x).set 4 y)[2]? = some (.val (.int (k : Nat)))) (hl : 4 < ρ.length) : ∀ (xs : List Int) (i : Nat) (acc : List D), acc.length + xs.length ≤ 1000 →
    lcD (gtT 2 (gtCons (gtN 3) (gtCons (gtN 4) gtNil))) (tB2 (eOp2 vEq (eN 4) (eN 2))) (eN 3) ρ (enumF i (xs.map .int)) acc none = .ok (acc ++ nsD (stG (k : Int) i xs)) none
  | [], _, acc, _ => by
    show R.ok acc none = .ok (acc ++ []) none
    rw [List.append_nil]
  | x :: r, i, acc, ha => by
    rw [List.length_cons] at ha
    have g : gtT 2 (gtCons (gtN 3) (gtCons (gtN 4) gtNil)) (.tup [.int (i : Nat), .int x]) ρ = some ((ρ.set 3 (.val (.int (i : Nat)))).set 4 (.val (.int x))) := rfl
    have e4 : ((ρ.set 3 (.val (.int (i : Nat)))).set 4 (.val (.int x)))[4]? = some (.val (.int x)) := by
      rw [List.getElem?_set_self (by rw [List.length_set]; exact hl)]
    have e3 : ((ρ.set 3 (.val (.int (i : Nat)))).set 4 (.val (.int x)))[3]? = some (.val (.int (i : Nat))) := by
      rw [List.getElem?_set_ne (by decide), List.getElem?_set_self (by omega)]
    have n4 : eN 4 ((ρ.set 3 (.val (.int (i : Nat)))).set 4 (.val (.int x))) none = .ok (.int x) none := by unfold eN; rw [e4]
    have n3 : eN 3 ((ρ.set 3 (.val (.int (i : Nat)))).set 4 (.val (.int x))) none = .ok (.int (i : Nat)) none := by unfold eN; rw [e3]
    have n2 : eN 2 ((ρ.set 3 (.val (.int (i : Nat)))).set 4 (.val (.int x))) none = .ok (.int (k : Nat)) none := by unfold eN; rw [h2]
    have t : (tB2 (eOp2 vEq (eN 4) (eN 2))) ((ρ.set 3 (.val (.int (i : Nat)))).set 4 (.val (.int x))) none = .ok (x == (k : Int)) none := b2_ok (op2_ok n4 n2 rfl)
    rw [List.map_cons]
    show lcD _ _ _ ρ (.tup [.int (i : Nat), .int x] :: enumF (i + 1) (r.map .int)) acc none = _
    unfold lcD
    rw [g]
    show ((tB2 (eOp2 vEq (eN 4) (eN 2))) ((ρ.set 3 (.val (.int (i : Nat)))).set 4 (.val (.int x))) none).calm.bind _ = _
    rw [t]
    show (if (x == (k : Int)) = true then _ else _) = _
    unfold stG
    by_cases e : (x == (k : Int)) = true
    · rw [if_pos e, if_pos e, n3]
      show (if fit acc.length then _ else _) = _
      rw [if_pos (fit_small (by omega)), lay_lc h2 hl r (i + 1) _ (by rw [List.length_append, List.length_singleton]; omega), List.append_assoc]
      rfl
    · rw [if_neg e, if_neg e]
      exact lay_lc h2 hl r (i + 1) acc (by omega)
theorem col_at {c : Nat} (h : c < W.length) : vIx (.tup (W.map colD)) (.int (c : Nat)) = some (colD (W.getD c [])) := ix_tup (getD_map colD [] h)
theorem wrd_at {c : Nat} (h : c < W.length) : vIx (.tup (W.map .str)) (.int (c : Nat)) = some (.str (W.getD c [])) := ix_tup (getD_map D.str [] h)
theorem layer_steps_ok (Z : Sized W n) {c : Nat} (hc : c < W.length) (hk : k < n) : F_layer_steps [cardD W n A, .int (c : Nat), .int (k : Nat)] = .ok (.tup (nsD (stL (W.getD c []) k))) none := by
  have G := wg_ok (Z.g hc) Z.n1 Z.n6
  have ch := check_lay (W := W) (n := n) (A := A) (whole_in hc) (whole_in hk)
  have ll := Z.len hc
  have n6 := Z.n6
  refine runP_rt (ρ := [.val (cardD W n A), .val (.int (c : Nat)), .val (.int (k : Nat)), .no, .no]) (s := none) rfl ?_
  unfold b_layer_steps
  have ex : (sExpr (eCall 3 F_check_layer (aCons (eN 0) (aCons (eN 1) (aCons (eN 2) aNil))))) [.val (cardD W n A), .val (.int (c : Nat)), .val (.int (k : Nat)), .no, .no] none = .nx [.val (cardD W n A), .val (.int (c : Nat)), .val (.int (k : Nat)), .no, .no] none := by
    have e : (eCall 3 F_check_layer (aCons (eN 0) (aCons (eN 1) (aCons (eN 2) aNil)))) [.val (cardD W n A), .val (.int (c : Nat)), .val (.int (k : Nat)), .no, .no] none = .ok .non none := call_ok (ds := [cardD W n A, .int (c : Nat), .int (k : Nat)]) (s1 := none) (cons_ok rfl (cons_ok rfl (cons_ok rfl rfl))) rfl ch
    unfold sExpr
    rw [e]
    rfl
  refine (seq_nx ex).trans ?_
  refine ret_of (s1 := none) (opN_ok (ds := [.lst (nsD (stL (W.getD c []) k))]) (cons_ok (s1 := none) (of_ok (lc_ok rfl (s1 := none) (enumX (ds := (layL (W.getD c [])).map .int) (cons_ok (s1 := none) (call_ok (ds := [colD (W.getD c [])]) (cons_ok (s1 := none) (op2_ok (x := .tup (W.map colD)) (y := .int (c : Nat)) (un_ok rfl rfl) rfl (col_at hc)) rfl) rfl G.lay) rfl) rfl rfl) (lay_lc (fun _ _ => rfl) (by show 4 < 5; decide) (layL (W.getD c [])) 0 [] (by unfold layL; rw [layG_len, ll]; show 0 + _ ≤ _; omega)))) rfl) ?_)
  have f : fit (nsD (stL (W.getD c []) k)).length = true := fit_small (by rw [List.length_map]; have := stL_len (l := W.getD c []) (k := k); omega)
  show tupD (.lst (nsD (stL (W.getD c []) k))) = _
  unfold tupD
  rfl
end
end Vv
namespace Vv
section
variable {n w k : Nat} {W : List (List Nat)} {A : List (Int × Int)} {l : List Nat}
theorem layer_of_ok (Z : Sized W n) {c t : Nat} (hc : c < W.length) (ht : t ∈ stL (W.getD c []) k) : F_layer_of [cardD W n A, .int (c : Nat), .int (t : Nat)] = .ok (.int (k : Nat)) none := by
  have G := wg_ok (Z.g hc) Z.n1 Z.n6
  obtain ⟨h1, h2⟩ := stL_mem ht
  rw [Z.len hc] at h1
  have n6 := Z.n6
  refine runP_rt (ρ := [.val (cardD W n A), .val (.int (c : Nat)), .val (.int (t : Nat))]) (s := none) rfl ?_
  unfold b_layer_of
  have m2 : (eOp2 vSub (eOp2 (vI gMul) (eC (.int 2)) (eAlt (eOp1 (fldD 0 1) (eN 0)) (eOp1 (fldD 1 1) (eN 0)))) (eC (.int 1))) [.val (cardD W n A), .val (.int (c : Nat)), .val (.int (t : Nat))] none = .ok (.int (((2 * n : Nat) : Int) - 1)) none :=
    op2_ok (x := .int ((2 * n : Nat) : Int)) (y := .int 1) (op2_ok (x := .int 2) (y := .int (n : Nat)) rfl rfl ((mulN (i := 2) (m := n) (by omega)).trans (by rw [Int.natCast_mul]; rfl))) rfl rfl
  refine (seq_pass (s1 := none) (orX (a := false) (b := false) (notX (a := true) (t_ok (d := .bl true) (s1 := none) (call_ok (ds := [.int (c : Nat), .int 0, .int ((W.length : Int) - 1)]) (cons_ok rfl (cons_ok rfl (cons_ok (s1 := none) (op2_ok (x := .int (W.length : Nat)) (y := .int 1) rfl rfl rfl) rfl))) rfl (whole_in hc)) rfl) rfl) (notX (a := true) (t_ok (d := .bl true) (s1 := none) (call_ok (ds := [.int (t : Nat), .int 0, .int (((2 * n : Nat) : Int) - 1)]) (cons_ok rfl (cons_ok rfl (cons_ok (s1 := none) m2 rfl))) rfl (whole_in h1)) rfl) rfl) (.inl rfl) rfl)).trans ?_
  exact ret_of (s1 := none) (op2_ok (x := .lst ((layL (W.getD c [])).map .int)) (y := .int (t : Nat)) (call_ok (ds := [colD (W.getD c [])]) (cons_ok (s1 := none) (op2_ok (x := .tup (W.map colD)) (y := .int (c : Nat)) (un_ok rfl rfl) rfl (col_at hc)) rfl) rfl G.lay) rfl (ix_lst (by rw [List.getElem?_map, h2]; rfl)))
theorem thickness_ok (Z : Sized W n) {c : Nat} (hc : c < W.length) (hk : k < n) : F_thickness [cardD W n A, .int (c : Nat), .int (k : Nat)] = .ok (.int ((stL (W.getD c []) k).length : Nat)) none := by
  refine runP_rt (ρ := [.val (cardD W n A), .val (.int (c : Nat)), .val (.int (k : Nat))]) (s := none) rfl ?_
  unfold b_thickness
  exact ret_of (s1 := none) (opN_ok (ds := [.tup (nsD (stL (W.getD c []) k))]) (cons_ok (s1 := none) (call_ok (ds := [cardD W n A, .int (c : Nat), .int (k : Nat)]) (cons_ok rfl (cons_ok rfl (cons_ok rfl rfl))) rfl (layer_steps_ok Z hc hk)) rfl) (lenT (List.length_map ..)))
theorem middles_ok (Z : Sized W n) {c : Nat} (hc : c < W.length) (hk : k < n) : F_middles [cardD W n A, .int (c : Nat), .int (k : Nat)] = .ok (.tup ((stL (W.getD c []) k).map (midD (W.getD c [])))) none := by
  have F := wf_ok (Z.g hc) Z.n1 Z.n6 hk
  have ls := stL_len (l := W.getD c []) (k := k)
  rw [Z.len hc] at ls
  have n6 := Z.n6
  refine runP_rt (ρ := [.val (cardD W n A), .val (.int (c : Nat)), .val (.int (k : Nat)), .no]) (s := none) rfl ?_
  unfold b_middles
  refine ret_of (s1 := none) (opN_ok (ds := [.lst ((stL (W.getD c []) k).map (midD (W.getD c [])))]) (cons_ok (s1 := none) (lc_fn (stL (W.getD c []) k) (fun i => .int (i : Nat)) (midD (W.getD c [])) rfl (it_ok (s1 := none) (call_ok (ds := [cardD W n A, .int (c : Nat), .int (k : Nat)]) (cons_ok rfl (cons_ok rfl (cons_ok rfl rfl))) rfl (layer_steps_ok Z hc hk)) rfl) (by omega) fun t ht => ⟨_, rfl, ?_⟩) rfl) rfl)
  refine call_ok (ds := [colD (W.getD c []), .int (t : Nat)]) (s1 := none) (cons_ok (s1 := none) (x := colD (W.getD c [])) ?_ (cons_ok rfl rfl)) rfl (F.mof t ht)
  exact op2_ok (x := .tup (W.map colD)) (y := .int (c : Nat)) (s2 := none) (s1 := none) rfl rfl (col_at hc)
/-- two neighbours each -/
theorem pair_ns (l : List Nat) : ∀ L : List Nat, ∃ P : List (Nat × Nat), pairF (nsD L) = P.map (fun p => .tup [.int (p.1 : Nat), .int (p.2 : Nat)]) ∧ tchD l L = P.map (fun p => .tup [.int (p.1 : Nat), .int (p.2 : Nat), sideD l p.1]) ∧ P.length ≤ L.length ∧ ∀ p ∈ P, p.1 ∈ L
  | [] => ⟨[], rfl, rfl, Nat.le_refl _, (fun _ h => nomatch h)⟩
  | [_] => ⟨[], rfl, rfl, Nat.zero_le _, (fun _ h => nomatch h)⟩
  | a :: b :: r => by
    obtain ⟨P, h1, h2, h3, h4⟩ := pair_ns l (b :: r)
    refine ⟨(a, b) :: P, ?_, ?_, ?_, fun p hp => ?_⟩
    · show D.tup [.int (a : Nat), .int (b : Nat)] :: pairF (nsD (b :: r)) = _
      rw [h1]; rfl
    · show D.tup [.int (a : Nat), .int (b : Nat), sideD l a] :: tchD l (b :: r) = _
      rw [h2]; rfl
    · rw [List.length_cons, List.length_cons]; omega
    · rcases List.mem_cons.mp hp with rfl | hp
      · exact List.mem_cons_self
      · exact List.mem_cons_of_mem _ (h4 p hp)
theorem stG_ge {k : Int} : ∀ {xs : List Int} {i t : Nat}, t ∈ stG k i xs → i ≤ t := fun h => (stG_mem h).1
theorem stG_noz {k : Int} : ∀ (xs : List Int) (i : Nat), ((nsD (stG k i xs)).drop 1).all noZ = true
  | [], _ => rfl
  | x :: r, i => by
    unfold stG
    split
    · show (nsD (stG k (i + 1) r)).all noZ = true
      refine List.all_eq_true.mpr fun d hd => ?_
      obtain ⟨t, ht, rfl⟩ := List.mem_map.mp hd
      have := stG_ge ht
      show decide (((t : Nat) : Int) ≠ 0) = true
      exact decide_eq_true (by omega)
    · exact stG_noz r (i + 1)
theorem eq_d {a : Nat} (ha : a = 100 ∨ a = 111) : vEq (.str [a]) (.str [100]) = some (.bl (decide (a = 100))) := by
  rcases ha with rfl | rfl <;> rfl
theorem touching_ok (Z : Sized W n) {c : Nat} (hc : c < W.length) (hk : k < n) : F_touching [cardD W n A, .int (c : Nat), .int (k : Nat)] = .ok (.tup (tchD (W.getD c []) (stL (W.getD c []) k))) none := by
  have ls := stL_len (l := W.getD c []) (k := k)
  rw [Z.len hc] at ls
  have n6 := Z.n6
  obtain ⟨P, p1, p2, p3, p4⟩ := pair_ns (W.getD c []) (stL (W.getD c []) k)
  refine runP_rt (ρ := [.val (cardD W n A), .val (.int (c : Nat)), .val (.int (k : Nat)), .no, .no, .no, .no]) (s := none) rfl ?_
  unfold b_touching
  refine (seq_asg (d := .tup (nsD (stL (W.getD c []) k))) (s1 := none) (call_ok (ds := [cardD W n A, .int (c : Nat), .int (k : Nat)]) (cons_ok rfl (cons_ok rfl (cons_ok rfl rfl))) rfl (layer_steps_ok Z hc hk))).trans ?_
  refine (seq_asg (d := .str (W.getD c [])) (s1 := none) (op2_ok (x := .tup (W.map .str)) (y := .int (c : Nat)) (s1 := none) rfl rfl (wrd_at hc))).trans ?_
  have it : iPw (aCons (eN 3) aNil) [.val (cardD W n A), .val (.int (c : Nat)), .val (.int (k : Nat)), .val (.tup (nsD (stL (W.getD c []) k))), .val (.str (W.getD c [])), .no, .no] none = .ok (P.map fun p => .tup [.int (p.1 : Nat), .int (p.2 : Nat)]) none := by
    show opt (if ((nsD (stL (W.getD c []) k)).drop 1).all noZ then some (pairF (nsD (stL (W.getD c []) k))) else none) none = _
    rw [if_pos (show ((nsD (stL (W.getD c []) k)).drop 1).all noZ = true from stG_noz _ _), p1]
    rfl
  rw [p2]
  refine ret_of (s1 := none) (opN_ok (ds := [.lst (P.map fun p => .tup [.int (p.1 : Nat), .int (p.2 : Nat), sideD (W.getD c []) p.1])]) (cons_ok (s1 := none) (lc_fn P (fun p => .tup [.int (p.1 : Nat), .int (p.2 : Nat)]) (fun p => .tup [.int (p.1 : Nat), .int (p.2 : Nat), sideD (W.getD c []) p.1]) rfl it (by omega) fun p hp => ⟨_, rfl, ?_⟩) rfl) rfl)
  have h1 := (stL_mem (p4 p hp)).1
  rw [Z.len hc] at h1
  refine opN_ok (ds := [.int (p.1 : Nat), .int (p.2 : Nat), sideD (W.getD c []) p.1]) (s1 := none) (cons_ok rfl (cons_ok rfl (cons_ok (s1 := none) (if_e (s1 := none) (b := decide ((W.getD c []).getD p.1 0 = 100)) (b2_ok (op2_ok (x := .str [ltr W c p.1]) (y := .str [100]) (op2_ok (x := .str (W.getD c [])) (y := .int (p.1 : Nat)) rfl rfl (Z.ixl hc h1)) rfl (eq_d (Z.let2 hc h1)))) ?_) rfl))) rfl
  unfold sideD
  by_cases e : (W.getD c []).getD p.1 0 = 100
  · rw [decide_eq_true e, if_pos rfl, if_pos e]; rfl
  · rw [decide_eq_false e, if_neg Bool.false_ne_true, if_neg e]; rfl
end
end Vv
namespace Vv
def jnB (l : List Nat) : Bool := (List.range (l.length / 2)).all fun k => forceL (stL l k) fun st => okIs (opt (joinD (.str []) (.lst (st.map fun t => .str [l.getD t 0]))) none) (.str (st.map fun t => l.getD t 0))
theorem jn_all : allWords.all jnB = true := by decide +kernel
section
variable {n w k : Nat} {W : List (List Nat)} {A : List (Int × Int)} {l : List Nat}
theorem jn_ok (g : Good l n) (h1 : 1 ≤ n) (h6 : n ≤ 6) (hk : k < n) : joinD (.str []) (.lst ((stL l k).map fun t => .str [l.getD t 0])) = some (.str ((stL l k).map fun t => l.getD t 0)) := by
  have e := g.by h1 h6 _ jn_all
  unfold jnB at e
  have e := List.all_eq_true.mp e k (List.mem_range.mpr (by rw [g.len]; omega))
  rw [forceL_eq] at e
  exact opt_some (okIs_eq e)
theorem zip_self19 : ∀ L : List D, zipD L L = L.map fun x => .tup [x, x]
  | [] => rfl
  | x :: r => by
    show D.tup [x, x] :: zipD r r = _
    rw [zip_self19 r]
    rfl
/-- a tuple of tuples of plain things and the list of the same -/
theorem lrows_g (L : List D) (hL : ∀ d ∈ L, ∃ x, d = .tup x ∧ x.all (pl 7) = true) (hl : L.length ≤ 1000) : F_l_rows [.tup L, .lst L] = .ok (.bl true) none := by
  have loop : ∀ (K : List D) (s2 s3 : Sl), (∀ d ∈ K, ∃ x, d = .tup x ∧ x.all (pl 7) = true) → ∃ y2 y3, loopD (gtT 2 (gtCons (gtN 2) (gtCons (gtN 3) gtNil))) b_l_rows_1 (K.map fun x => .tup [x, x]) [.val (.tup L), .val (.lst L), s2, s3] none = .nx [.val (.tup L), .val (.lst L), y2, y3] none := fun K => by
    induction K with
    | nil => intro s2 s3 _; exact ⟨s2, s3, rfl⟩
    | cons d K ih =>
      intro s2 s3 hK
      obtain ⟨x, rfl, hx⟩ := hK d List.mem_cons_self
      obtain ⟨y2, y3, e⟩ := ih (.val (.tup x)) (.val (.tup x)) fun z hz => hK z (List.mem_cons_of_mem _ hz)
      refine ⟨y2, y3, ?_⟩
      rw [List.map_cons]
      refine (loop_nx (ρ1 := [.val (.tup L), .val (.lst L), .val (.tup x), .val (.tup x)]) rfl ?_).trans e
      unfold b_l_rows_1
      exact if_pass (orX (a := false) (b := false) (notX (a := true) (t_ok (s1 := none) (opN_ok (cons_ok rfl (cons_ok rfl rfl)) rfl) rfl) rfl) (b2_ok (op2_ok (x := .lst x) (y := .lst x) (s1 := none) (llst_t (cons_ok rfl rfl)) (s2 := none) (llst_t (cons_ok rfl rfl)) (ne_same hx))) (.inl rfl) rfl)
  obtain ⟨y2, y3, e⟩ := loop L .no .no hL
  refine runP_rt (ρ := [.val (.tup L), .val (.lst L), .no, .no]) (s := none) rfl ?_
  unfold b_l_rows
  refine (seq_pass (s1 := none) (orX (a := false) (b := false) (notX (a := true) (t_ok (s1 := none) (opN_ok (cons_ok rfl (cons_ok rfl rfl)) rfl) rfl) rfl) (b2_ok (op2_ok (x := .int (L.length : Nat)) (y := .int (L.length : Nat)) (s1 := none) (opN_ok (cons_ok rfl rfl) (lenT rfl)) (s2 := none) (opN_ok (cons_ok rfl rfl) (lenL rfl)) (ne_same rfl))) (.inl rfl) rfl)).trans ?_
  have it : (iZp (aCons (eN 0) (aCons (eN 1) aNil))) [.val (.tup L), .val (.lst L), .no, .no] none = .ok (L.map fun x => .tup [x, x]) none := by
    rw [← zip_self19]
    show (if decide (L.length = L.length) && _ then R.ok (zipD L L) none else .bad) = _
    rw [decide_eq_true rfl]
    rfl
  exact (seq_nx (for_of15 (s1 := none) it e)).trans rfl
theorem mids_plain (l : List Nat) (L : List Nat) : ∀ d ∈ L.map (midD l), ∃ x, d = .tup x ∧ x.all (pl 7) = true := fun d hd => by
  obtain ⟨t, _, rfl⟩ := List.mem_map.mp hd
  exact ⟨_, rfl, rfl⟩
theorem tchs_plain (l : List Nat) : ∀ L : List Nat, ∀ d ∈ tchD l L, ∃ x, d = .tup x ∧ x.all (pl 7) = true
  | [], d, h => nomatch h
  | [_], d, h => nomatch h
  | a :: b :: r, d, h => by
    rcases List.mem_cons.mp h with rfl | h
    · refine ⟨_, rfl, ?_⟩
      unfold sideD
      split <;> rfl
    · exact tchs_plain l (b :: r) d h
theorem tch_len (l : List Nat) : ∀ L : List Nat, (tchD l L).length ≤ L.length
  | [] => Nat.le_refl _
  | [_] => Nat.zero_le _
  | a :: b :: r => by
    show (tchD l (b :: r)).length + 1 ≤ _
    have := tch_len l (b :: r)
    rw [List.length_cons]
    omega
abbrev envR (W : List (List Nat)) (n : Nat) (A : List (Int × Int)) (c k : Nat) (s7 s8 : Sl) : En := [.val (cardD W n A), .val (.str (W.getD c [])), .val (.int (c : Nat)), .val (.int (k : Nat)), .val (.lst (nsD (stL (W.getD c []) k))), .val (.tup (nsD (stL (W.getD c []) k))), .val (.tup ((stL (W.getD c []) k).map (midD (W.getD c [])))), s7, s8, .no]
theorem enum_mids (f : Nat → D) : ∀ (L : List Nat) (i : Nat), enumF i (L.map f) = (List.range L.length).map fun j => .tup [.int (i + j : Nat), f (L.getD j 0)]
  | [], _ => rfl
  | a :: r, i => by
    rw [List.map_cons, List.length_cons, List.range_succ_eq_map, List.map_cons, List.map_map]
    show D.tup [.int (i : Nat), f a] :: enumF (i + 1) (r.map f) = _
    rw [enum_mids f r (i + 1)]
    congr 1
    refine List.map_congr_left fun j _ => ?_
    show D.tup [.int (i + 1 + j : Nat), f (r.getD j 0)] = D.tup [.int (i + (j + 1) : Nat), f (r.getD j 0)]
    rw [Nat.add_assoc, Nat.add_comm 1 j]
theorem right_loop19 (Z : Sized W n) {c : Nat} (hc : c < W.length) (hk : k < n) : ∀ (js : List Nat) (s7 s8 : Sl), (∀ j ∈ js, j < (stL (W.getD c []) k).length) →
    ∃ y7 y8, loopD (gtT 2 (gtCons (gtN 7) (gtCons (gtN 8) gtNil))) b_l_layer_right_1 (js.map fun j => .tup [.int (j : Nat), midD (W.getD c []) ((stL (W.getD c []) k).getD j 0)]) (envR W n A c k s7 s8) none = .nx (envR W n A c k y7 y8) none
  | [], s7, s8, _ => ⟨s7, s8, rfl⟩
  | j :: js, s7, s8, hj => by
    have F := wf_ok (Z.g hc) Z.n1 Z.n6 hk
    have n6 := Z.n6
    have j1 := hj j List.mem_cons_self
    have tm : (stL (W.getD c []) k).getD j 0 ∈ stL (W.getD c []) k := getD_mem 0 j1
    have sm := F.sum _ tm
    have ic := F.inc j j1
    obtain ⟨y7, y8, e2⟩ := right_loop19 Z hc hk js (.val (.int (j : Nat))) (.val (midD (W.getD c []) ((stL (W.getD c []) k).getD j 0))) fun x hx => hj x (List.mem_cons_of_mem _ hx)
    have e : b_l_layer_right_1 (envR W n A c k (.val (.int (j : Nat))) (.val (midD (W.getD c []) ((stL (W.getD c []) k).getD j 0)))) none = .nx (envR W n A c k (.val (.int (j : Nat))) (.val (midD (W.getD c []) ((stL (W.getD c []) k).getD j 0)))) none := by
      unfold b_l_layer_right_1
      have t1 : vNe (.int (midX (W.getD c []) ((stL (W.getD c []) k).getD j 0) + midY (W.getD c []) ((stL (W.getD c []) k).getD j 0))) (.int (2 * (k : Int) + 1)) = some (.bl false) := by
        rw [sm]; exact ne_same rfl
      have q1 : (tB2 (eOp2 vNe (eOp2 vAdd (eOp2 vIx (eN 8) (eC (.int 0))) (eOp2 vIx (eN 8) (eC (.int 1)))) (eOp2 vAdd (eOp2 (vI gMul) (eC (.int 2)) (eN 3)) (eC (.int 1))))) (envR W n A c k (.val (.int (j : Nat))) (.val (midD (W.getD c []) ((stL (W.getD c []) k).getD j 0)))) none = .ok false none :=
        b2_ok (op2_ok (x := .int (midX (W.getD c []) ((stL (W.getD c []) k).getD j 0) + midY (W.getD c []) ((stL (W.getD c []) k).getD j 0))) (y := .int (2 * (k : Int) + 1)) (s1 := none) rfl (op2_ok (x := .int (2 * (k : Int))) (y := .int 1) (op2_ok (x := .int 2) (y := .int (k : Nat)) rfl rfl (mulN (by omega))) rfl rfl) t1)
      by_cases h0 : j = 0
      · subst h0
        exact if_pass (orX (a := false) (b := false) q1 (and_f (s1 := none) rfl) (.inl rfl) rfl)
      · have x1 : (eOp2 vIx (eN 8) (eC (.int 0))) (envR W n A c k (.val (.int (j : Nat))) (.val (midD (W.getD c []) ((stL (W.getD c []) k).getD j 0)))) none = .ok (.int (midX (W.getD c []) ((stL (W.getD c []) k).getD j 0))) none := rfl
        have a1 : vIx (.tup ((stL (W.getD c []) k).map (midD (W.getD c [])))) (.int ((j - 1 : Nat) : Int)) = some (midD (W.getD c []) ((stL (W.getD c []) k).getD (j - 1) 0)) := ix_tup (getD_map (midD (W.getD c [])) 0 (by omega))
        have x2 : (eOp2 vIx (eOp2 vIx (eN 6) (eOp2 vSub (eN 7) (eC (.int 1)))) (eC (.int 0))) (envR W n A c k (.val (.int (j : Nat))) (.val (midD (W.getD c []) ((stL (W.getD c []) k).getD j 0)))) none = .ok (.int (midX (W.getD c []) ((stL (W.getD c []) k).getD (j - 1) 0))) none :=
          op2_ok (x := midD (W.getD c []) ((stL (W.getD c []) k).getD (j - 1) 0)) (y := .int 0) (op2_ok (x := .tup ((stL (W.getD c []) k).map (midD (W.getD c [])))) (y := .int ((j - 1 : Nat) : Int)) (s1 := none) rfl (op2_ok (x := .int (j : Nat)) (y := .int 1) rfl rfl (by show some (D.int ((j : Int) - 1)) = _; congr 2; omega)) a1) rfl rfl
        have g1 : vGt (.int (j : Nat)) (.int 0) = some (.bl true) := by
          show some (D.bl (decide (((j : Nat) : Int) > 0))) = _
          rw [decide_eq_true (by omega)]
        have g2 : vLe (.int (midX (W.getD c []) ((stL (W.getD c []) k).getD j 0))) (.int (midX (W.getD c []) ((stL (W.getD c []) k).getD (j - 1) 0))) = some (.bl false) := by
          show some (D.bl (decide (_ ≤ _))) = _
          have ic' := ic.resolve_left h0
          rw [decide_eq_false (by omega)]
        exact if_pass (orX (a := false) (b := false) q1 (andX (a := true) (b := false) (s1 := none) (b2_ok (op2_ok (s1 := none) (x := .int (j : Nat)) (y := .int 0) rfl rfl g1)) (b2_ok (op2_ok (s1 := none) x1 x2 g2)) (.inl rfl) rfl) (.inl rfl) rfl)
    exact ⟨y7, y8, (loop_nx rfl e).trans e2⟩
theorem layer_right_ok (Z : Sized W n) {c : Nat} (hc : c < W.length) (hk : k < n) : F_l_layer_right [cardD W n A, .str (W.getD c []), .int (c : Nat), .int (k : Nat)] = .ok (.bl true) none := by
  have F := wf_ok (Z.g hc) Z.n1 Z.n6 hk
  have n6 := Z.n6
  have ls := stL_len (l := W.getD c []) (k := k)
  rw [Z.len hc] at ls
  have ll := Z.len hc
  have lsteps := layer_steps_ok (A := A) Z hc hk
  have lm := middles_ok (A := A) Z hc hk
  have lt := touching_ok (A := A) Z hc hk
  have lth := thickness_ok (A := A) Z hc hk
  refine runP_rt (ρ := [.val (cardD W n A), .val (.str (W.getD c [])), .val (.int (c : Nat)), .val (.int (k : Nat)), .no, .no, .no, .no, .no, .no]) (s := none) rfl ?_
  unfold b_l_layer_right
  refine (seq_asg (d := .lst (nsD (stL (W.getD c []) k))) (s1 := none) (call_ok (ds := [.str (W.getD c []), .int (k : Nat)]) (cons_ok rfl (cons_ok rfl rfl)) rfl F.steps)).trans ?_
  refine (seq_asg (d := .tup (nsD (stL (W.getD c []) k))) (s1 := none) (call_ok (ds := [cardD W n A, .int (c : Nat), .int (k : Nat)]) (cons_ok rfl (cons_ok rfl (cons_ok rfl rfl))) rfl lsteps)).trans ?_
  dsimp only [List.set]
  have jn : (eOf (lLc [9] (iIt (eN 4)) (gtN 9) tTrue (eOp2 vIx (eN 1) (eN 9)))) [.val (cardD W n A), .val (.str (W.getD c [])), .val (.int (c : Nat)), .val (.int (k : Nat)), .val (.lst (nsD (stL (W.getD c []) k))), .val (.tup (nsD (stL (W.getD c []) k))), .no, .no, .no, .no] none = .ok (.lst ((stL (W.getD c []) k).map fun t => .str [(W.getD c []).getD t 0])) none := by
    refine lc_fn (stL (W.getD c []) k) (fun i => .int (i : Nat)) (fun t => .str [(W.getD c []).getD t 0]) rfl (it_ok (s1 := none) rfl rfl) (by omega) fun t ht => ⟨_, rfl, ?_⟩
    have h1 := (stL_mem ht).1
    rw [ll] at h1
    exact op2_ok (x := .str (W.getD c [])) (y := .int (t : Nat)) (s1 := none) rfl rfl (Z.ixl hc h1)
  have rp : vRepS (.str [100, 111]) (.int ((stL (W.getD c []) k).length / 2 : Nat)) = some (.str ((stL (W.getD c []) k).map fun t => (W.getD c []).getD t 0)) := by
    rw [F.dod]
    show (if decide ((-1000 : Int) ≤ (((stL (W.getD c []) k).length / 2 : Nat) : Int)) && (decide ((((stL (W.getD c []) k).length / 2 : Nat) : Int) ≤ 1000) && _) then some (D.str (List.replicate ((((stL (W.getD c []) k).length / 2 : Nat) : Int)).toNat [100, 111]).flatten) else none) = _
    rw [decide_eq_true (by omega), decide_eq_true (by omega), Int.toNat_natCast]
    rfl
  have ps : pl 8 (.str ((stL (W.getD c []) k).map fun t => (W.getD c []).getD t 0)) = true := by
    show ((stL (W.getD c []) k).map fun t => (W.getD c []).getD t 0).all (fun c => decide (c < 1114112)) = true
    refine List.all_eq_true.mpr fun x hx => ?_
    obtain ⟨t, ht, rfl⟩ := List.mem_map.mp hx
    have h1 := (stL_mem ht).1
    rw [ll] at h1
    rcases Z.let2 hc h1 with e | e <;> exact decide_eq_true (by rw [show (W.getD c []).getD t 0 = ltr W c t from rfl, e]; decide)
  have hv : vI gFdiv (.int ((stL (W.getD c []) k).length : Nat)) (.int 2) = some (.int ((stL (W.getD c []) k).length / 2 : Nat)) := by
    show some (D.int (((stL (W.getD c []) k).length : Int) / 2)) = _
    congr 2
  refine (seq_pass (s1 := none) (orX (a := false) (b := false) (notX (a := true) (t_ok (d := .bl true) (s1 := none) (opN_ok (ds := [.tup (nsD (stL (W.getD c []) k)), .ty "tuple"]) (cons_ok rfl (cons_ok rfl rfl)) rfl) rfl) rfl) (orX (a := false) (b := false) (b2_ok (op2_ok (x := .lst (nsD (stL (W.getD c []) k))) (y := .lst (nsD (stL (W.getD c []) k))) (s1 := none) (llst_t (cons_ok rfl rfl)) (s2 := none) rfl (ne_same (pl_ns _)))) (b2_ok (op2_ok (x := .str ((stL (W.getD c []) k).map fun t => (W.getD c []).getD t 0)) (y := .str ((stL (W.getD c []) k).map fun t => (W.getD c []).getD t 0)) (s1 := none) (em1X rfl jn (jn_ok (Z.g hc) Z.n1 Z.n6 hk)) (op2_ok (x := .str [100, 111]) (y := .int ((stL (W.getD c []) k).length / 2 : Nat)) rfl (op2_ok (x := .int ((stL (W.getD c []) k).length : Nat)) (y := .int 2) (opN_ok (cons_ok rfl rfl) (lenL (List.length_map ..))) rfl hv) rp) (ne_same ps))) (.inl rfl) rfl) (.inl rfl) rfl)).trans ?_
  refine (seq_asg (d := .tup ((stL (W.getD c []) k).map (midD (W.getD c [])))) (s1 := none) (call_ok (ds := [cardD W n A, .int (c : Nat), .int (k : Nat)]) (cons_ok rfl (cons_ok rfl (cons_ok rfl rfl))) rfl lm)).trans ?_
  dsimp only [List.set]
  have r1 := lrows_g ((stL (W.getD c []) k).map (midD (W.getD c []))) (mids_plain _ _) (by rw [List.length_map]; omega)
  have r2 := lrows_g (tchD (W.getD c []) (stL (W.getD c []) k)) (tchs_plain _ _) (by have := tch_len (W.getD c []) (stL (W.getD c []) k); omega)
  refine (seq_pass (s1 := none) (orX (a := false) (b := false) (notX (a := true) (t_ok (d := .bl true) (s1 := none) (call_ok (ds := [.tup ((stL (W.getD c []) k).map (midD (W.getD c []))), .lst ((stL (W.getD c []) k).map (midD (W.getD c [])))]) (cons_ok rfl (cons_ok (s1 := none) (call_ok (ds := [.str (W.getD c []), .lst (nsD (stL (W.getD c []) k))]) (cons_ok rfl (cons_ok rfl rfl)) rfl F.mids) rfl)) rfl r1) rfl) rfl)
    (notX (a := true) (t_ok (d := .bl true) (s1 := none) (call_ok (ds := [.tup (tchD (W.getD c []) (stL (W.getD c []) k)), .lst (tchD (W.getD c []) (stL (W.getD c []) k))]) (cons_ok (s1 := none) (call_ok (ds := [cardD W n A, .int (c : Nat), .int (k : Nat)]) (cons_ok rfl (cons_ok rfl (cons_ok rfl rfl))) rfl lt) (cons_ok (s1 := none) (call_ok (ds := [.str (W.getD c []), .lst (nsD (stL (W.getD c []) k))]) (cons_ok rfl (cons_ok rfl rfl)) rfl F.tchs) rfl)) rfl r2) rfl) rfl) (.inl rfl) rfl)).trans ?_
  obtain ⟨y7, y8, e⟩ := right_loop19 (A := A) Z hc hk (List.range (stL (W.getD c []) k).length) .no .no fun j hj => List.mem_range.mp hj
  refine (seq_nx (for_of15 (s1 := none) (enumX (ds := (stL (W.getD c []) k).map (midD (W.getD c []))) (cons_ok rfl rfl) rfl (by rw [enum_mids]; simp only [Nat.zero_add])) e)).trans ?_
  exact ret_of (s1 := none) (call_ok (ds := [.int ((stL (W.getD c []) k).length : Nat), .int ((stL (W.getD c []) k).length : Nat)]) (cons_ok (s1 := none) (call_ok (ds := [cardD W n A, .int (c : Nat), .int (k : Nat)]) (cons_ok rfl (cons_ok rfl (cons_ok rfl rfl))) rfl lth) (cons_ok (s1 := none) (opN_ok (cons_ok rfl rfl) (lenL (List.length_map ..))) rfl)) rfl (lnum_same _))
end
end Vv
namespace Vv
def sl19_0 : Sf := (sAsg (eCallH 1 0 F_l_sizes aNil) (gtT 2 (gtCons (gtN 2) (gtCons (gtN 3) gtNil))))
def sl19_1 : Sf := (sAsg (eCallH 1 2 F_l_words (aCons (eN 2) (aCons (eN 3) aNil))) (gtN 4))
def sl19_2 : Sf := (sAsg (eCallH 1 1 F_l_slits (aCons (eN 4) aNil)) (gtN 5))
def sl19_3 : Sf := (sPar 6 7 (aCons (eCall 2 F_l_card (aCons (eN 4) (aCons (eN 5) aNil))) (aCons (eCall 2 F_l_card (aCons (eN 4) (aCons (eOpN gLstD aNil) aNil))) aNil)))
def sl19_4 : Sf := (sFor (iRange rg1 (aCons (eN 3) aNil)) (gtN 8)
  b_law_3)
def sl19_5 : Sf := (sAsg (eCallH 1 1 F_l_pick (aCons (eOpN gLstD (aCons (eOp1 negD (eC (.int 1))) (aCons (eN 3) (aCons (eC .non) (aCons (eC (.str [48])) (aCons (eC (.bl true)) (aCons (eOp2 (vI gPow) (eC (.int 10)) (eC (.int 20))) aNil))))))) aNil)) (gtN 12))
def sl19_6 : Sf := (sAsg (eCallH 1 1 F_l_pick (aCons (eOpN gLstD (aCons (eOp1 negD (eC (.int 1))) (aCons (eN 2) (aCons (eC .non) (aCons (eC (.str [48])) (aCons (eC (.bl false)) (aCons (eOp1 negD (eOp2 (vI gPow) (eC (.int 10)) (eC (.int 20)))) aNil))))))) aNil)) (gtN 13))
def sl19_7 : Sf := (sFor (iRange rg1 (aCons (eC (.int 4)) aNil)) (gtN 14)
  b_law_4)
def sl19_8 : Sf := (sRet (eCall 4 F_l_layer_right (aCons (eN 6) (aCons (eOp2 vIx (eN 4) (eC (.int 0))) (aCons (eC (.int 0)) (aCons (eCallH 1 1 F_l_draw (aCons (eN 2) aNil)) aNil))))))
theorem sl19_split : b_law = (sSeq sl19_0 (sSeq sl19_1 (sSeq sl19_2 (sSeq sl19_3 (sSeq sl19_4 (sSeq sl19_5 (sSeq sl19_6 (sSeq sl19_7 sl19_8)))))))) := rfl
end Vv
namespace Vv
section
variable {n w k : Nat} {W : List (List Nat)} {A : List (Int × Int)} {l : List Nat}
theorem it_ex19 {f : Ef} {ρ : En} {s s1 : S} {x : Nat} {fs : List D} (h : f ρ s = .exc x fs s1) : iIt f ρ s = .exc x fs s1 := by
  unfold iIt
  rw [h]
  rfl
theorem lc_ex19 {is : List Nat} {fi : Af} {gt : D → En → Option En} {ft : Tf} {fe : Ef} {ρ : En} {s s1 : S} {x : Nat} {fs : List D} (p : is.all (plainAt ρ) = true) (h : fi ρ s = .exc x fs s1) : lLc is fi gt ft fe ρ s = .exc x fs s1 := by
  unfold lLc
  rw [p, if_pos rfl, h]
  rfl
theorem of_ex19 {f : Lf} {ρ : En} {s s1 : S} {x : Nat} {fs : List D} (h : f ρ s = .exc x fs s1) : eOf f ρ s = .exc x fs s1 := by
  unfold eOf
  rw [h]
  rfl
theorem cons_ex19 {f : Ef} {r : Af} {ρ : En} {s s1 : S} {x : Nat} {fs : List D} (h : f ρ s = .exc x fs s1) : aCons f r ρ s = .exc x fs s1 := by
  unfold aCons
  rw [h]
  rfl
theorem opN_ex19 {g : List D → Option D} {f : Af} {ρ : En} {s s1 : S} {x : Nat} {fs : List D} (h : f ρ s = .exc x fs s1) : eOpN g f ρ s = .exc x fs s1 := by
  unfold eOpN
  rw [h]
  rfl
theorem ret_ex19 {f : Ef} {ρ : En} {s s1 : S} {x : Nat} {fs : List D} (h : f ρ s = .exc x fs s1) : sRet f ρ s = .exc x fs ρ s1 := by
  unfold sRet
  rw [h]
  rfl
theorem steps_ex {dc dk : D} {x : Nat} {fs : List D} (h : F_check_layer [cardD W n A, dc, dk] = .exc x fs none) : F_layer_steps [cardD W n A, dc, dk] = .exc x fs none := by
  refine runP_ex (ρ := [.val (cardD W n A), .val dc, .val dk, .no, .no]) (ρ' := [.val (cardD W n A), .val dc, .val dk, .no, .no]) (s := none) rfl ?_
  unfold b_layer_steps
  refine seq_ex19 ?_
  have e : (eCall 3 F_check_layer (aCons (eN 0) (aCons (eN 1) (aCons (eN 2) aNil)))) [.val (cardD W n A), .val dc, .val dk, .no, .no] none = .exc x fs none := call_ex15 (ds := [cardD W n A, dc, dk]) (s1 := none) (cons_ok rfl (cons_ok rfl (cons_ok rfl rfl))) rfl h
  unfold sExpr
  rw [e]
  rfl
theorem mids_ex {dc dk : D} {x : Nat} {fs : List D} (h : F_check_layer [cardD W n A, dc, dk] = .exc x fs none) : F_middles [cardD W n A, dc, dk] = .exc x fs none := by
  refine runP_ex (ρ := [.val (cardD W n A), .val dc, .val dk, .no]) (ρ' := [.val (cardD W n A), .val dc, .val dk, .no]) (s := none) rfl ?_
  unfold b_middles
  have e : (eCall 3 F_layer_steps (aCons (eN 0) (aCons (eN 1) (aCons (eN 2) aNil)))) [.val (cardD W n A), .val dc, .val dk, .no] none = .exc x fs none := call_ex15 (ds := [cardD W n A, dc, dk]) (s1 := none) (cons_ok rfl (cons_ok rfl (cons_ok rfl rfl))) rfl (steps_ex h)
  exact ret_ex19 (opN_ex19 (cons_ex19 (of_ex19 (lc_ex19 rfl (it_ex19 e)))))
theorem touch_ex {dc dk : D} {x : Nat} {fs : List D} (h : F_check_layer [cardD W n A, dc, dk] = .exc x fs none) : F_touching [cardD W n A, dc, dk] = .exc x fs none := by
  refine runP_ex (ρ := [.val (cardD W n A), .val dc, .val dk, .no, .no, .no, .no]) (ρ' := [.val (cardD W n A), .val dc, .val dk, .no, .no, .no, .no]) (s := none) rfl ?_
  unfold b_touching
  refine seq_ex19 ?_
  have e : (eCall 3 F_layer_steps (aCons (eN 0) (aCons (eN 1) (aCons (eN 2) aNil)))) [.val (cardD W n A), .val dc, .val dk, .no, .no, .no, .no] none = .exc x fs none := call_ex15 (ds := [cardD W n A, dc, dk]) (s1 := none) (cons_ok rfl (cons_ok rfl (cons_ok rfl rfl))) rfl (steps_ex h)
  unfold sAsg
  rw [e]
  rfl
theorem thick_ex {dc dk : D} {x : Nat} {fs : List D} (h : F_check_layer [cardD W n A, dc, dk] = .exc x fs none) : F_thickness [cardD W n A, dc, dk] = .exc x fs none := by
  refine runP_ex (ρ := [.val (cardD W n A), .val dc, .val dk]) (ρ' := [.val (cardD W n A), .val dc, .val dk]) (s := none) rfl ?_
  unfold b_thickness
  have e : (eCall 3 F_layer_steps (aCons (eN 0) (aCons (eN 1) (aCons (eN 2) aNil)))) [.val (cardD W n A), .val dc, .val dk] none = .exc x fs none := call_ex15 (ds := [cardD W n A, dc, dk]) (s1 := none) (cons_ok rfl (cons_ok rfl (cons_ok rfl rfl))) rfl (steps_ex h)
  exact ret_ex19 (opN_ex19 (cons_ex19 e))
/-- the body of the law's trial -/
abbrev bodyF : Sf := (sIf (tB2 (eOp2 vEq (eN 0) (eC (.int 0)))) (sExpr (eCall 3 F_layer_steps (aCons (eN 1) (aCons (eN 2) (aCons (eN 3) aNil))))) (sIf (tB2 (eOp2 vEq (eN 0) (eC (.int 1)))) (sExpr (eCall 3 F_middles (aCons (eN 1) (aCons (eN 2) (aCons (eN 3) aNil))))) (sIf (tB2 (eOp2 vEq (eN 0) (eC (.int 2)))) (sExpr (eCall 3 F_touching (aCons (eN 1) (aCons (eN 2) (aCons (eN 3) aNil))))) (sExpr (eCall 3 F_thickness (aCons (eN 1) (aCons (eN 2) (aCons (eN 3) aNil))))))))
theorem body_ex {y : Nat} (hy : y < 4) {dc dk : D} {x : Nat} {fs : List D} (h : F_check_layer [cardD W n A, dc, dk] = .exc x fs none) : bodyF [.val (.int (y : Nat)), .val (cardD W n A), .val dc, .val dk, .no] none = .exc x fs [.val (.int (y : Nat)), .val (cardD W n A), .val dc, .val dk, .no] none := by
  have one : ∀ {F : List D → R D}, F [cardD W n A, dc, dk] = .exc x fs none → ∀ v : D, (sExpr (eCall 3 F (aCons (eN 1) (aCons (eN 2) (aCons (eN 3) aNil))))) [.val v, .val (cardD W n A), .val dc, .val dk, .no] none = .exc x fs [.val v, .val (cardD W n A), .val dc, .val dk, .no] none := fun hF v => by
    have e : (eCall 3 _ (aCons (eN 1) (aCons (eN 2) (aCons (eN 3) aNil)))) [.val v, .val (cardD W n A), .val dc, .val dk, .no] none = .exc x fs none := call_ex15 (ds := [cardD W n A, dc, dk]) (s1 := none) (cons_ok rfl (cons_ok rfl (cons_ok rfl rfl))) rfl hF
    unfold sExpr
    rw [e]
    rfl
  match y, hy with
  | 0, _ => exact (if_T (s1 := none) rfl).trans (one (steps_ex h) _)
  | 1, _ => exact (if_F (s1 := none) rfl).trans ((if_T (s1 := none) rfl).trans (one (mids_ex h) _))
  | 2, _ => exact (if_F (s1 := none) rfl).trans ((if_F (s1 := none) rfl).trans ((if_T (s1 := none) rfl).trans (one (touch_ex h) _)))
  | 3, _ => exact (if_F (s1 := none) rfl).trans ((if_F (s1 := none) rfl).trans ((if_F (s1 := none) rfl).trans (one (thick_ex h) _)))
theorem fault_col {y : Nat} (hy : y < 4) {dc dk : D} (h : F_check_layer [cardD W n A, dc, dk] = .exc 3 [dc] none) : F_l_fault [.int (y : Nat), cardD W n A, dc, dk] = .ok (.tup [.str [99, 111, 108, 117, 109, 110], dc, .bl true]) none := by
  refine runP_rt (ρ := [.val (.int (y : Nat)), .val (cardD W n A), .val dc, .val dk, .no]) (s := none) rfl ?_
  unfold b_l_fault
  refine seq_rt ?_
  have b := body_ex hy h
  unfold sTryM
  rw [show (sIf _ _ _ : Sf) = bodyF from rfl, b]
  rfl
theorem fault_lay {y : Nat} (hy : y < 4) {dc dk : D} (h : F_check_layer [cardD W n A, dc, dk] = .exc 66 [dk] none) : F_l_fault [.int (y : Nat), cardD W n A, dc, dk] = .ok (.tup [.str [108, 97, 121, 101, 114], dk, .bl true]) none := by
  refine runP_rt (ρ := [.val (.int (y : Nat)), .val (cardD W n A), .val dc, .val dk, .no]) (s := none) rfl ?_
  unfold b_l_fault
  refine seq_rt ?_
  have b := body_ex hy h
  unfold sTryM
  rw [show (sIf _ _ _ : Sf) = bodyF from rfl, b]
  rfl
theorem fault_none (Z : Sized W n) {y c : Nat} (hy : y < 4) (hc : c < W.length) (hk : k < n) : F_l_fault [.int (y : Nat), cardD W n A, .int (c : Nat), .int (k : Nat)] = .ok .non none := by
  have one : ∀ {F : List D → R D} {d : D}, F [cardD W n A, .int (c : Nat), .int (k : Nat)] = .ok d none → ∀ v : D, (sExpr (eCall 3 F (aCons (eN 1) (aCons (eN 2) (aCons (eN 3) aNil))))) [.val v, .val (cardD W n A), .val (.int (c : Nat)), .val (.int (k : Nat)), .no] none = .nx [.val v, .val (cardD W n A), .val (.int (c : Nat)), .val (.int (k : Nat)), .no] none := fun {F d} hF v => by
    have e : (eCall 3 F (aCons (eN 1) (aCons (eN 2) (aCons (eN 3) aNil)))) [.val v, .val (cardD W n A), .val (.int (c : Nat)), .val (.int (k : Nat)), .no] none = .ok d none := call_ok (ds := [cardD W n A, .int (c : Nat), .int (k : Nat)]) (s1 := none) (cons_ok rfl (cons_ok rfl (cons_ok rfl rfl))) rfl hF
    unfold sExpr
    rw [e]
    rfl
  have b : bodyF [.val (.int (y : Nat)), .val (cardD W n A), .val (.int (c : Nat)), .val (.int (k : Nat)), .no] none = .nx [.val (.int (y : Nat)), .val (cardD W n A), .val (.int (c : Nat)), .val (.int (k : Nat)), .no] none := by
    match y, hy with
    | 0, _ => exact (if_T (s1 := none) rfl).trans (one (layer_steps_ok Z hc hk) _)
    | 1, _ => exact (if_F (s1 := none) rfl).trans ((if_T (s1 := none) rfl).trans (one (middles_ok Z hc hk) _))
    | 2, _ => exact (if_F (s1 := none) rfl).trans ((if_F (s1 := none) rfl).trans ((if_T (s1 := none) rfl).trans (one (touching_ok Z hc hk) _)))
    | 3, _ => exact (if_F (s1 := none) rfl).trans ((if_F (s1 := none) rfl).trans ((if_F (s1 := none) rfl).trans (one (thickness_ok Z hc hk) _)))
  refine runP_rt (ρ := [.val (.int (y : Nat)), .val (cardD W n A), .val (.int (c : Nat)), .val (.int (k : Nat)), .no]) (s := none) rfl ?_
  unfold b_l_fault
  refine (seq_nx (ρ' := [.val (.int (y : Nat)), .val (cardD W n A), .val (.int (c : Nat)), .val (.int (k : Nat)), .no]) (s' := none) ?_).trans rfl
  unfold sTryM
  rw [show (sIf _ _ _ : Sf) = bodyF from rfl, b]
end
end Vv
namespace Vv
section
variable {n w k : Nat} {W : List (List Nat)} {A : List (Int × Int)} {l : List Nat}
abbrev envM19 (W : List (List Nat)) (n : Nat) (M A : List (Int × Int)) (A0 : List (Int × Int)) (s8 s9 s10 s11 : Sl) : En := [.no, .hand, .val (.int (n : Nat)), .val (.int (W.length : Nat)), .val (lstW W), .val (.lst (M.map markD)), .val (cardD W n A), .val (cardD W n A0), s8, s9, s10, s11, .no, .no, .no]
theorem seen_loop (Z : Sized W n) {M A0 : List (Int × Int)} {c : Nat} (hc : c < W.length) {st : S} : ∀ (ts : List Nat) (seen : List Nat) (s11 : Sl), (∀ t ∈ ts, t ∈ stL (W.getD c []) k) → seen.length + ts.length ≤ 900 →
    ∃ y11, loopD (gtN 11) b_law_1 (nsD ts) (envM19 W n M A A0 (.val (.int (c : Nat))) (.own (nsD seen)) (.val (.int (k : Nat))) s11) st = .nx (envM19 W n M A A0 (.val (.int (c : Nat))) (.own (nsD (seen ++ ts))) (.val (.int (k : Nat))) y11) st
  | [], seen, s11, _, _ => ⟨s11, by rw [List.append_nil]; rfl⟩
  | t :: ts, seen, s11, h, hl => by
    rw [List.length_cons] at hl
    have e1 := layer_of_ok (A := A) Z hc (h t List.mem_cons_self)
    obtain ⟨y11, e2⟩ := seen_loop Z (M := M) (A0 := A0) hc (st := st) ts (seen ++ [t]) (.val (.int (t : Nat))) (fun x hx => h x (List.mem_cons_of_mem _ hx)) (by rw [List.length_append, List.length_singleton]; omega)
    rw [List.append_assoc] at e2
    refine ⟨y11, (loop_nx (ρ1 := envM19 W n M A A0 (.val (.int (c : Nat))) (.own (nsD seen)) (.val (.int (k : Nat))) (.val (.int (t : Nat)))) rfl ?_).trans e2⟩
    unfold b_law_1
    refine (seq_pass (s1 := st) (notX (a := true) (t_ok (d := .bl true) (s1 := st) (call_ok (ds := [.int (k : Nat), .int (k : Nat)]) (cons_ok (s1 := st) (call_ok (ds := [cardD W n A, .int (c : Nat), .int (t : Nat)]) (cons_ok rfl (cons_ok rfl (cons_ok rfl rfl))) rfl e1) (cons_ok rfl rfl)) rfl (lnum_same _)) rfl) rfl)).trans ?_
    refine (app_nx (ds := nsD seen) (d := .int (t : Nat)) (s1 := st) rfl rfl (by rw [List.length_map]; omega)).trans ?_
    rw [show nsD (seen ++ [t]) = nsD seen ++ [.int (t : Nat)] from by unfold nsD; rw [List.map_append]; rfl]
    rfl
theorem lay_loop (Z : Sized W n) {M A0 : List (Int × Int)} {c : Nat} (hc : c < W.length) {st : S} : ∀ (m k0 : Nat) (s10 s11 : Sl), k0 + m = n →
    ∃ y10 y11, loopD (gtN 10) b_law_2 ((List.range' k0 m).map fun i => .int (i : Nat)) (envM19 W n M A A0 (.val (.int (c : Nat))) (.own (nsD ((List.range k0).flatMap (stL (W.getD c []))))) s10 s11) st = .nx (envM19 W n M A A0 (.val (.int (c : Nat))) (.own (nsD ((List.range n).flatMap (stL (W.getD c []))))) y10 y11) st
  | 0, k0, s10, s11, h => ⟨s10, s11, by rw [show k0 = n by omega]; rfl⟩
  | m + 1, k0, s10, s11, h => by
    have hk : k0 < n := by omega
    have n6 := Z.n6
    have lr := layer_right_ok (A := A) Z hc hk
    have l1 := layer_steps_ok (A := A) Z hc hk
    have l2 := layer_steps_ok (A := A0) Z hc hk
    have bound : ∀ j, j ≤ n → ((List.range j).flatMap (stL (W.getD c []))).length ≤ 12 * j := fun j => by
      induction j with
      | zero => intro _; exact Nat.le_refl _
      | succ j ih =>
        intro hj
        rw [List.range_succ, List.flatMap_append, List.length_append]
        have := ih (by omega)
        have e := stL_len (l := W.getD c []) (k := j)
        rw [Z.len hc] at e
        have e1 : ([j].flatMap (stL (W.getD c []))).length = (stL (W.getD c []) j).length := by simp
        rw [e1]
        omega
    have bk := bound k0 (by omega)
    have bs := stL_len (l := W.getD c []) (k := k0)
    rw [Z.len hc] at bs
    obtain ⟨y11, e2⟩ := seen_loop (A := A) Z (M := M) (A0 := A0) hc (st := st) (stL (W.getD c []) k0) ((List.range k0).flatMap (stL (W.getD c []))) s11 (fun t ht => ht) (by omega)
    have fm : (List.range k0).flatMap (stL (W.getD c [])) ++ stL (W.getD c []) k0 = (List.range (k0 + 1)).flatMap (stL (W.getD c [])) := by
      rw [List.range_succ, List.flatMap_append]
      simp
    rw [fm] at e2
    obtain ⟨y10, y11', e3⟩ := lay_loop Z (M := M) (A0 := A0) hc (st := st) m (k0 + 1) (.val (.int (k0 : Nat))) y11 (by omega)
    refine ⟨y10, y11', ?_⟩
    rw [List.range'_succ, List.map_cons]
    refine (loop_nx (ρ1 := envM19 W n M A A0 (.val (.int (c : Nat))) (.own (nsD ((List.range k0).flatMap (stL (W.getD c []))))) (.val (.int (k0 : Nat))) s11) rfl ?_).trans e3
    unfold b_law_2
    refine (seq_pass (s1 := st) (orX (a := false) (b := false) (notX (a := true) (t_ok (d := .bl true) (s1 := st) (call_ok (ds := [cardD W n A, .str (W.getD c []), .int (c : Nat), .int (k0 : Nat)]) (cons_ok rfl (cons_ok (s1 := st) (op2_ok (x := lstW W) (y := .int (c : Nat)) rfl rfl (ix_word hc)) (cons_ok rfl (cons_ok rfl rfl)))) rfl lr) rfl) rfl)
      (b2_ok (op2_ok (s1 := st) (x := .tup (nsD (stL (W.getD c []) k0))) (y := .tup (nsD (stL (W.getD c []) k0))) (call_ok (ds := [cardD W n A0, .int (c : Nat), .int (k0 : Nat)]) (cons_ok rfl (cons_ok rfl (cons_ok rfl rfl))) rfl l2) (call_ok (ds := [cardD W n A, .int (c : Nat), .int (k0 : Nat)]) (cons_ok rfl (cons_ok rfl (cons_ok rfl rfl))) rfl l1) (ne_same (pl_ns _)))) (.inl rfl) rfl)).trans ?_
    exact for_of15 (s1 := st) (it_ok (s1 := st) (d := .tup (nsD (stL (W.getD c []) k0))) (call_ok (ds := [cardD W n A, .int (c : Nat), .int (k0 : Nat)]) (cons_ok rfl (cons_ok rfl (cons_ok rfl rfl))) rfl l1) rfl) e2
end
end Vv
namespace Vv
section
variable {n w k : Nat} {W : List (List Nat)} {A : List (Int × Int)} {l : List Nat}
theorem lrg19 {fa : Af} {ρ : En} {s s1 : S} {n : Nat} (h : fa ρ s = .ok [.int (n : Nat)] s1) (hn : n ≤ 1000) : lRg fa ρ s = .ok (nsD (List.range n)) s1 := by
  unfold lRg
  rw [h]
  show (if decide ((0 : Int) ≤ (n : Int)) && decide ((n : Int) ≤ 100000) then R.ok (rangeL 0 ((n : Int)).toNat) s1 else .bad) = _
  rw [if_pos (by simp; omega), Int.toNat_natCast]
  congr 1
  unfold rangeL nsD
  refine List.map_congr_left fun x _ => ?_
  rw [Int.zero_add]
theorem rangeL_eq (m : Nat) : rangeL 0 m = (List.range' 0 m).map fun i => .int (i : Nat) := by
  unfold rangeL
  rw [List.range_eq_range']
  refine List.map_congr_left fun i _ => ?_
  rw [Int.zero_add]
theorem col_loop (Z : Sized W n) {M A0 : List (Int × Int)} {st : S} : ∀ (cs : List Nat) (s8 s9 s10 s11 : Sl), (∀ c ∈ cs, c < W.length) → (s9 = .no ∨ ∃ d, s9 = .val d) →
    ∃ y8 y9 y10 y11, (y9 = .no ∨ ∃ d, y9 = .val d) ∧ loopD (gtN 8) b_law_3 (nsD cs) (envM19 W n M A A0 s8 s9 s10 s11) st = .nx (envM19 W n M A A0 y8 y9 y10 y11) st
  | [], s8, s9, s10, s11, _, h9 => ⟨s8, s9, s10, s11, h9, rfl⟩
  | c :: cs, s8, s9, s10, s11, h, h9 => by
    have hc := h c List.mem_cons_self
    have n6 := Z.n6
    have G := wg_ok (Z.g hc) Z.n1 Z.n6
    have srt := G.srt
    rw [Z.len hc, show 2 * n / 2 = n by omega] at srt
    obtain ⟨y10, y11, e1⟩ := lay_loop (A := A) Z (M := M) (A0 := A0) hc (st := st) n 0 s10 s11 (by omega)
    obtain ⟨z8, z9, z10, z11, hz, e2⟩ := col_loop Z (M := M) (A0 := A0) (st := st) cs (.val (.int (c : Nat))) (.val (.lst (nsD ((List.range n).flatMap (stL (W.getD c [])))))) y10 y11 (fun x hx => h x (List.mem_cons_of_mem _ hx)) (.inr ⟨_, rfl⟩)
    refine ⟨z8, z9, z10, z11, hz, (loop_nx (ρ1 := envM19 W n M A A0 (.val (.int (c : Nat))) s9 s10 s11) rfl ?_).trans e2⟩
    unfold b_law_3
    have o : (sOwn 9 (fun ρ s => (aNil ρ s).bind fun ds s1 => opt (fitL ds) s1)) (envM19 W n M A A0 (.val (.int (c : Nat))) s9 s10 s11) st = .nx (envM19 W n M A A0 (.val (.int (c : Nat))) (.own []) s10 s11) st := rfl
    refine (seq_nx o).trans ?_
    refine (seq_nx (for_of15 (s1 := st) (range_ok (ds := [.int (n : Nat)]) (is := [((n : Nat) : Int)]) (s1 := st) (cons_ok rfl rfl) rfl ((rg1_nat (by omega)).trans (congrArg some (rangeL_eq n)))) e1)).trans ?_
    have z2 : (eOf (lRg (aCons (eOp2 (vI gMul) (eC (.int 2)) (eN 2)) aNil))) (envM19 W n M A A0 (.val (.int (c : Nat))) (.val (.lst (nsD ((List.range n).flatMap (stL (W.getD c [])))))) y10 y11) st = .ok (.lst (nsD (List.range (2 * n)))) st :=
      of_ok (lrg19 (n := 2 * n) (s1 := st) (cons_ok (s1 := st) (op2_ok (x := .int 2) (y := .int (n : Nat)) rfl rfl ((mulN (i := 2) (m := n) (by omega)).trans (by rw [Int.natCast_mul]; rfl))) rfl) (by omega))
    have fz : (sFrz 9 (sIf (tB2 (eOp2 vNe (eOpN (g1 sortD) (aCons (eN 9) aNil)) (eOf (lRg (aCons (eOp2 (vI gMul) (eC (.int 2)) (eN 2)) aNil))))) (sRet (eC (.bl false))) sNil)) (envM19 W n M A A0 (.val (.int (c : Nat))) (.own (nsD ((List.range n).flatMap (stL (W.getD c []))))) y10 y11) st = (sIf (tB2 (eOp2 vNe (eOpN (g1 sortD) (aCons (eN 9) aNil)) (eOf (lRg (aCons (eOp2 (vI gMul) (eC (.int 2)) (eN 2)) aNil))))) (sRet (eC (.bl false))) sNil) (envM19 W n M A A0 (.val (.int (c : Nat))) (.val (.lst (nsD ((List.range n).flatMap (stL (W.getD c [])))))) y10 y11) st := rfl
    refine fz.trans ?_
    exact if_pass (b2_ok (s1 := st) (op2_ok (x := .lst (nsD (List.range (2 * n)))) (y := .lst (nsD (List.range (2 * n)))) (opN_ok (ds := [.lst (nsD ((List.range n).flatMap (stL (W.getD c []))))]) (s1 := st) (cons_ok rfl rfl) srt) z2 (ne_same (pl_ns _))))
theorem late_ok {k : Nat} (h6 : k ≤ 12) {c : Nat} {d : D} (h : [D.int (-1), .int (k : Nat), .non, .str [48], .bl false, .int (-(10 ^ 20))][c]? = some d) : F_is_whole [d, .int 0, .int ((k : Int) - 1)] = .ok (.bl false) none ∧ pl 7 d = true := by
  have := List.mem_of_getElem? h
  simp only [List.mem_cons, List.not_mem_nil, or_false] at this
  rcases this with rfl | rfl | rfl | rfl | rfl | rfl
  · exact ⟨by rw [is_whole_int]; rfl, rfl⟩
  · exact ⟨by rw [is_whole_int, decide_eq_false (p := ((k : Nat) : Int) ≤ (k : Int) - 1) (by omega), Bool.and_false], rfl⟩
  · exact ⟨rfl, rfl⟩
  · exact ⟨rfl, rfl⟩
  · exact ⟨rfl, rfl⟩
  · exact ⟨by rw [is_whole_int, decide_eq_false (p := (0 : Int) ≤ -(10 ^ 20)) (by omega), Bool.false_and], rfl⟩
theorem odd19 {k : Nat} (h6 : k ≤ 12) {c : Nat} {d : D} (h : [D.int (-1), .int (k : Nat), .non, .str [48], .bl true, .int (10 ^ 20)][c]? = some d) : F_is_whole [d, .int 0, .int ((k : Int) - 1)] = .ok (.bl false) none ∧ pl 7 d = true := by
  refine ⟨(odd_ok h6 (.inl rfl) h).1, ?_⟩
  have := List.mem_of_getElem? h
  simp only [List.mem_cons, List.not_mem_nil, or_false] at this
  rcases this with rfl | rfl | rfl | rfl | rfl | rfl <;> rfl
abbrev envV (W : List (List Nat)) (n : Nat) (M A : List (Int × Int)) (A0 : List (Int × Int)) (s8 s9 s10 s11 : Sl) (odd late : D) (s14 : Sl) : En := [.no, .hand, .val (.int (n : Nat)), .val (.int (W.length : Nat)), .val (lstW W), .val (.lst (M.map markD)), .val (cardD W n A), .val (cardD W n A0), s8, s9, s10, s11, .val odd, .val late, s14]
theorem way_loop (Z : Sized W n) {M A0 : List (Int × Int)} {st : S} {s8 s9 s10 s11 : Sl} {odd late : D} (ho : F_is_whole [odd, .int 0, .int ((W.length : Int) - 1)] = .ok (.bl false) none) (hl : F_is_whole [late, .int 0, .int ((n : Int) - 1)] = .ok (.bl false) none) (po : pl 7 odd = true) (plt : pl 7 late = true) : ∀ (ys : List Nat) (s14 : Sl), (∀ y ∈ ys, y < 4) →
    ∃ y14, loopD (gtN 14) b_law_4 (nsD ys) (envV W n M A A0 s8 s9 s10 s11 odd late s14) st = .nx (envV W n M A A0 s8 s9 s10 s11 odd late y14) st
  | [], s14, _ => ⟨s14, rfl⟩
  | y :: ys, s14, h => by
    have hy := h y List.mem_cons_self
    have w1 := Z.w1
    have n1 := Z.n1
    have c0 : F_is_whole [.int 0, .int 0, .int ((W.length : Int) - 1)] = .ok (.bl true) none := whole_in (a := 0) (k := W.length) (by omega)
    have k0 : F_is_whole [.int 0, .int 0, .int ((n : Int) - 1)] = .ok (.bl true) none := whole_in (a := 0) (k := n) (by omega)
    have f1 := fault_col (W := W) (n := n) (A := A) hy (check_lay ho hl)
    have f2 := fault_lay (W := W) (n := n) (A := A) (dc := .int 0) hy (check_lay c0 hl)
    have f3 := fault_col (W := W) (n := n) (A := A) (dk := .int 0) hy (check_lay ho k0)
    have f4 := fault_none (A := A) Z (y := y) (c := W.length - 1) (k := n - 1) hy (by omega) (by omega)
    obtain ⟨y14, e2⟩ := way_loop Z (M := M) (A0 := A0) (st := st) (s8 := s8) (s9 := s9) (s10 := s10) (s11 := s11) ho hl po plt ys (.val (.int (y : Nat))) fun x hx => h x (List.mem_cons_of_mem _ hx)
    refine ⟨y14, (loop_nx (ρ1 := envV W n M A A0 s8 s9 s10 s11 odd late (.val (.int (y : Nat)))) rfl ?_).trans e2⟩
    have p1 : pl 8 (.tup [.str [99, 111, 108, 117, 109, 110], odd, .bl true]) = true := by
      show (pl 7 (.str [99, 111, 108, 117, 109, 110]) && (pl 7 odd && (pl 7 (.bl true) && true))) = true
      rw [po]; rfl
    have p2 : pl 8 (.tup [.str [108, 97, 121, 101, 114], late, .bl true]) = true := by
      show (pl 7 (.str [108, 97, 121, 101, 114]) && (pl 7 late && (pl 7 (.bl true) && true))) = true
      rw [plt]; rfl
    unfold b_law_4
    refine (seq_pass (s1 := st) (orX (a := false) (b := false) (b2_ok (op2_ok (s1 := st) (x := .tup [.str [99, 111, 108, 117, 109, 110], odd, .bl true]) (y := .tup [.str [99, 111, 108, 117, 109, 110], odd, .bl true]) (call_ok (ds := [.int (y : Nat), cardD W n A, odd, late]) (cons_ok rfl (cons_ok rfl (cons_ok rfl (cons_ok rfl rfl)))) rfl f1) (opN_ok (cons_ok rfl (cons_ok rfl (cons_ok rfl rfl))) rfl) (ne_same p1)))
      (b2_ok (op2_ok (s1 := st) (x := .tup [.str [108, 97, 121, 101, 114], late, .bl true]) (y := .tup [.str [108, 97, 121, 101, 114], late, .bl true]) (call_ok (ds := [.int (y : Nat), cardD W n A, .int 0, late]) (cons_ok rfl (cons_ok rfl (cons_ok rfl (cons_ok rfl rfl)))) rfl f2) (opN_ok (cons_ok rfl (cons_ok rfl (cons_ok rfl rfl))) rfl) (ne_same p2))) (.inl rfl) rfl)).trans ?_
    have sub1 : (eOp2 vSub (eN 3) (eC (.int 1))) (envV W n M A A0 s8 s9 s10 s11 odd late (.val (.int (y : Nat)))) st = .ok (.int ((W.length - 1 : Nat) : Int)) st := op2_ok (x := .int (W.length : Nat)) (y := .int 1) rfl rfl (by show some (D.int ((W.length : Int) - 1)) = _; congr 2; omega)
    have sub2 : (eOp2 vSub (eN 2) (eC (.int 1))) (envV W n M A A0 s8 s9 s10 s11 odd late (.val (.int (y : Nat)))) st = .ok (.int ((n - 1 : Nat) : Int)) st := op2_ok (x := .int (n : Nat)) (y := .int 1) rfl rfl (by show some (D.int ((n : Int) - 1)) = _; congr 2; omega)
    exact if_pass (orX (a := false) (b := false) (b2_ok (op2_ok (s1 := st) (x := .tup [.str [99, 111, 108, 117, 109, 110], odd, .bl true]) (y := .tup [.str [99, 111, 108, 117, 109, 110], odd, .bl true]) (call_ok (ds := [.int (y : Nat), cardD W n A, odd, .int 0]) (cons_ok rfl (cons_ok rfl (cons_ok rfl (cons_ok rfl rfl)))) rfl f3) (opN_ok (cons_ok rfl (cons_ok rfl (cons_ok rfl rfl))) rfl) (ne_same p1)))
      (b2_ok (op2_ok (s1 := st) (x := .non) (y := .non) (call_ok (ds := [.int (y : Nat), cardD W n A, .int ((W.length - 1 : Nat) : Int), .int ((n - 1 : Nat) : Int)]) (cons_ok rfl (cons_ok rfl (cons_ok sub1 (cons_ok sub2 rfl)))) rfl f4) rfl rfl)) (.inl rfl) rfl)
end
end Vv
namespace Vv
theorem cols_all : allWords.all (fun w => okIs (F_Column___init__ [.str w]) (colD w)) = true := by decide +kernel
theorem col_init {l : List Nat} {n : Nat} (g : Good l n) (h1 : 1 ≤ n) (h6 : n ≤ 6) : F_Column___init__ [.str l] = .ok (colD l) none := okIs_eq (Good.by g h1 h6 _ cols_all)
theorem rangeL_nat19 (m : Nat) : rangeL 0 m = nsD (List.range m) := by
  unfold rangeL nsD
  refine List.map_congr_left fun x _ => ?_
  rw [Int.zero_add]
theorem law_pure1 : ∀ st, hsOk st = true → ∃ s', resH (b_law (en0 15 [.no, .hand]) (some st)) = .ok (.bl true) s' := by
  intro st hs
  obtain ⟨n, w, st1, e1, n1, n6, w1, w12, hs1⟩ := sizes_ok17 hs
  obtain ⟨W, st2, e2, wl, g, hs2⟩ := words_ok n1 n6 w1 (by omega) hs1
  subst wl
  have ok : Lists [W] n W.length := ⟨n1, n6, w1, w12, by simp, fun V hV => by rw [List.mem_singleton.mp hV], fun V hV l hl => by rw [List.mem_singleton.mp hV] at hl; exact g l hl⟩
  have Z : Sized W n := ⟨n1, n6, w1, w12, g⟩
  have hh : ∀ l, Good l n → F_l_heights [.str l] = .ok (.lst (intsD (htsF 0 l))) none := fun l gl => (wg_ok gl n1 n6).hts
  obtain ⟨M, st3, e3, okM, ndM, lM, hs3⟩ := slits_ok hh ok hs2
  have hM : Marks M n W.length := ⟨okM, ndM, by omega⟩
  have cd := lcard17 (fun g h1 h6 => col_init g h1 h6) ok hM
  have cd0 := lcard17 (M := []) (fun g h1 h6 => col_init g h1 h6) ok marks_nil
  obtain ⟨y8, y9, y10, y11, h9, l1⟩ := col_loop Z (M := M) (A := isort leP M) (A0 := isort leP []) (st := some st3) (List.range W.length) .no .no .no .no (fun c hc => List.mem_range.mp hc) (.inl rfl)
  obtain ⟨c1, odd, st4, e4, h4, hs4⟩ := pick_ok (ds := [D.int (-1), .int (W.length : Nat), .non, .str [48], .bl true, .int (10 ^ 20)]) (by simp) (by simp) hs3
  obtain ⟨c2, late, st5, e5, h5, hs5⟩ := pick_ok (ds := [D.int (-1), .int (n : Nat), .non, .str [48], .bl false, .int (-(10 ^ 20))]) (by simp) (by simp) hs4
  obtain ⟨o1, o2⟩ := odd19 w12 h4
  obtain ⟨o3, o4⟩ := late_ok (k := n) (by omega) h5
  obtain ⟨y14, l2⟩ := way_loop (A := isort leP M) Z (M := M) (A0 := isort leP []) (st := some st5) (s8 := y8) (s9 := y9) (s10 := y10) (s11 := y11) o1 o3 o2 o4 (List.range 4) .no fun y hy => List.mem_range.mp hy
  obtain ⟨d, st6, e6, d0, d5, hs6⟩ := draw_ok hs5 (m := (n : Nat)) (by omega) (by omega)
  obtain ⟨k, rfl⟩ : ∃ k : Nat, d = k := ⟨d.toNat, by omega⟩
  have lr := layer_right_ok (A := isort leP M) Z (c := 0) (k := k) (by omega) (by omega)
  refine ⟨some st6, ?_⟩
  refine congrArg resH (?_ : b_law [.no, .hand, .no, .no, .no, .no, .no, .no, .no, .no, .no, .no, .no, .no, .no] (some st) = .rt (.bl true) (some st6))
  rw [sl19_split]
  refine (asg_g (d := .tup [.int (n : Nat), .int (W.length : Nat)]) (s1 := some st1) (ρ' := [.no, .hand, .val (.int (n : Nat)), .val (.int (W.length : Nat)), .no, .no, .no, .no, .no, .no, .no, .no, .no, .no, .no]) (callH_ok (ds := []) (s1 := some st) rfl rfl rfl e1) rfl).trans ?_
  refine (seq_asg (d := lstW W) (s1 := some st2) (callH_ok (ds := [.int (n : Nat), .int (W.length : Nat)]) (s1 := some st1) rfl (cons_ok rfl (cons_ok rfl rfl)) rfl e2)).trans ?_
  refine (seq_asg (d := .lst (M.map markD)) (s1 := some st3) (callH_ok (ds := [lstW W]) (s1 := some st2) rfl (cons_ok rfl rfl) rfl e3)).trans ?_
  refine (par_ok (a := cardD W n (isort leP M)) (b := cardD W n (isort leP [])) (s1 := some st3) (cons_ok (call_ok (ds := [lstW W, .lst (M.map markD)]) (cons_ok rfl (cons_ok rfl rfl)) rfl cd) (cons_ok (call_ok (ds := [lstW W, .lst []]) (cons_ok rfl (cons_ok rfl rfl)) rfl cd0) rfl))).trans ?_
  refine (seq_nx (for_of15 (s1 := some st3) (range_ok (ds := [.int (W.length : Nat)]) (is := [((W.length : Nat) : Int)]) (s1 := some st3) (cons_ok rfl rfl) rfl ((rg1_nat (by omega)).trans (congrArg some (rangeL_nat19 W.length)))) l1)).trans ?_
  refine (seq_asg (d := odd) (s1 := some st4) (callH_ok (ds := [.lst [D.int (-1), .int (W.length : Nat), .non, .str [48], .bl true, .int (10 ^ 20)]]) (s1 := some st3) rfl (cons_ok (opN_ok (ds := [D.int (-1), .int (W.length : Nat), .non, .str [48], .bl true, .int (10 ^ 20)]) (cons_ok rfl (cons_ok rfl (cons_ok rfl (cons_ok rfl (cons_ok rfl (cons_ok rfl rfl)))))) rfl) rfl) rfl e4)).trans ?_
  refine (seq_asg (d := late) (s1 := some st5) (callH_ok (ds := [.lst [D.int (-1), .int (n : Nat), .non, .str [48], .bl false, .int (-(10 ^ 20))]]) (s1 := some st4) rfl (cons_ok (opN_ok (ds := [D.int (-1), .int (n : Nat), .non, .str [48], .bl false, .int (-(10 ^ 20))]) (cons_ok rfl (cons_ok rfl (cons_ok rfl (cons_ok rfl (cons_ok rfl (cons_ok rfl rfl)))))) rfl) rfl) rfl e5)).trans ?_
  dsimp only [List.set]
  refine (seq_nx (for_of15 (s1 := some st5) (range_ok (ds := [.int 4]) (is := [4]) (s1 := some st5) (cons_ok rfl rfl) rfl rfl) l2)).trans ?_
  exact ret_of (s1 := some st6) (call_ok (ds := [cardD W n (isort leP M), .str (W.getD 0 []), .int ((0 : Nat) : Int), .int (k : Nat)]) (cons_ok rfl (cons_ok (s1 := some st5) (op2_ok (x := lstW W) (y := .int ((0 : Nat) : Int)) rfl rfl (ix_word w1)) (cons_ok rfl (cons_ok (s1 := some st6) (callH_ok (ds := [.int (n : Nat)]) (s1 := some st5) rfl (cons_ok rfl rfl) rfl e6) rfl)))) rfl lr)
theorem law_pure : ∀ st, hsOk st = true → ∃ s', resH (b_law (en0 15 [.no, .hand]) (some st)) = .ok (.bl true) s' := law_pure1
end Vv
section
open Vv
variable {P : Program} {w : World} {K : PySem.W.Frag} {mg : Str → Option Value} {base : Heap} {AD : Ads}
theorem ok_law0 (T : Top K mg AD) (pure_ : ∀ st, hsOk st = true → ∃ s', resH (b_law (en0 15 [.no, .hand]) (some st)) = .ok (.bl true) s') : FnOk P w K mg base CX0 8 AD.f_law AD.d_law P_law (spLaw K) := by
  refine T.D_law.F.ok sc_law (fun vs H Q E h => by obtain ⟨a, ns, rfl, _⟩ := h; rfl) (fun cdv A outer s H vs Q E hr h => ?_)
  obtain ⟨a, ns, rfl, hS, hl, q⟩ := h
  refine ⟨_, pss_cons (ps_set (i := 1) sc_law.nd rfl (Or.inl rfl) (callD T.D_l_hand (okx_l_hand T) hr (pa_cons (pv 0) pa_nil)))
    (pss_any (B := BT K AD) (W := W0) (g := b_law)
  (vss_cons (vs_asg (ve_callH 1 F_l_sizes (v_l_sizes T) (hr.mono (by decide)) rfl T.D_l_sizes.g T.D_l_sizes.F.kp T.D_l_sizes.b takes0 (pv 1) va_nil) (vg_t (n := 2) rfl (by rfl) (vgs_cons (vg_n 2 sc_law.nd) (vgs_cons (vg_n 3 sc_law.nd) vgs_nil))))
  (vss_cons (vs_set 4 sc_law.nd (ve_callH 1 F_l_words (v_l_words T) (hr.mono (by decide)) rfl T.D_l_words.g T.D_l_words.F.kp T.D_l_words.b takes0 (pv 1) (va_cons (ve_n 2) (va_cons (ve_n 3) va_nil))))
  (vss_cons (vs_set 5 sc_law.nd (ve_callH 1 F_l_slits (v_l_slits T) (hr.mono (by decide)) rfl T.D_l_slits.g T.D_l_slits.F.kp T.D_l_slits.b takes0 (pv 1) (va_cons (ve_n 4) va_nil)))
  (vss_cons (vs_par 6 7 (by rfl) sc_law.nd rfl rfl (by decide) rfl rfl (va_cons (ve_call F_l_card (v_l_card T) (hr.mono (by decide)) rfl T.D_l_card.g T.D_l_card.F.kp T.D_l_card.b takes0 (va_cons (ve_n 4) (va_cons (ve_n 5) va_nil))) (va_cons (ve_call F_l_card (v_l_card T) (hr.mono (by decide)) rfl T.D_l_card.g T.D_l_card.F.kp T.D_l_card.b takes0 (va_cons (ve_n 4) (va_cons (ve_lst va_nil) va_nil))) va_nil)) (by rfl))
  (vss_cons (vs_for PassesOwn.never (by rfl) (vi_range1 (by rfl) T.b_range (va_cons (ve_n 3) va_nil)) (vg_n 8 sc_law.nd)
  (vss_cons (vs_own 9 sc_law.nd (vf_lst va_nil))
  (vss_cons (vs_for PassesOwn.never (by rfl) (vi_range1 (by rfl) T.b_range (va_cons (ve_n 2) va_nil)) (vg_n 10 sc_law.nd)
  (vss_cons (vs_if (VW.vt (vw_or (vt_not (vt_val rfl (ve_call F_l_layer_right (v_l_layer_right T) (hr.mono (by decide)) rfl T.D_l_layer_right.g T.D_l_layer_right.F.kp T.D_l_layer_right.b takes0 (va_cons (ve_n 6) (va_cons (ve_ix (ix_A rfl) Op2.ix (ve_n 4) (ve_n 8) (fun _ _ => rfl)) (va_cons (ve_n 8) (va_cons (ve_n 10) va_nil))))) (by intro _; rfl))) (vw_or1 (vt_cmp (op_neB rfl hr.units) Op2.ne (ve_call F_layer_steps (v_layer_steps T) (hr.mono (by decide)) rfl T.D_layer_steps.g T.D_layer_steps.F.kp T.D_layer_steps.b takes0 (va_cons (ve_n 7) (va_cons (ve_n 8) (va_cons (ve_n 10) va_nil)))) (ve_call F_layer_steps (v_layer_steps T) (hr.mono (by decide)) rfl T.D_layer_steps.g T.D_layer_steps.F.kp T.D_layer_steps.b takes0 (va_cons (ve_n 6) (va_cons (ve_n 8) (va_cons (ve_n 10) va_nil)))) (nomark _)))))
  (vss_one (vs_ret ve_bl))
  vss_nil)
  (vss_one (vs_for PassesOwn.never (by rfl) (vi_any rfl (ve_call F_layer_steps (v_layer_steps T) (hr.mono (by decide)) rfl T.D_layer_steps.g T.D_layer_steps.F.kp T.D_layer_steps.b takes0 (va_cons (ve_n 6) (va_cons (ve_n 8) (va_cons (ve_n 10) va_nil))))) (vg_n 11 sc_law.nd)
  (vss_cons (vs_if (vt_not (vt_val rfl (ve_call F_l_number (v_l_number T) (hr.mono (by decide)) rfl T.D_l_number.g T.D_l_number.F.kp T.D_l_number.b takes0 (va_cons (ve_call F_layer_of (v_layer_of T) (hr.mono (by decide)) rfl T.D_layer_of.g T.D_layer_of.F.kp T.D_layer_of.b takes0 (va_cons (ve_n 6) (va_cons (ve_n 8) (va_cons (ve_n 11) va_nil)))) (va_cons (ve_n 10) va_nil))) (by intro _; rfl)))
  (vss_one (vs_ret ve_bl))
  vss_nil)
  (vss_one (vs_app 9 (ve_n 11) rfl (fun h => pe_bm PySem.F.plainAttrs_list PySem.F.slot_list_append PySem.F.type_list_append mt_append (pv 9) h))))))))
  (vss_one (vs_frz 9 (vs_if (vt_cmp (op_neB rfl hr.units) Op2.ne (ve_b (cr_sortD rfl hr.units) OpN.sort (by rfl) T.b_sorted (by decide +kernel) (va_cons (ve_n 9) va_nil)) (VF.ve (vf_rg1 rfl (by rfl) T.b_list (by rfl) T.b_range (ve_op op_mul Op2.mul ve_int (ve_n 2)))) (nomark _))
  (vss_one (vs_ret ve_bl))
  vss_nil))))))
  (vss_cons (vs_set 12 sc_law.nd (ve_callH 1 F_l_pick (v_l_pick T) (hr.mono (by decide)) rfl T.D_l_pick.g T.D_l_pick.F.kp T.D_l_pick.b takes0 (pv 1) (va_cons (ve_lst (va_cons (ve_un un_neg Op1.neg ve_int) (va_cons (ve_n 3) (va_cons ve_non (va_cons (ve_s [48] (by decide +kernel)) (va_cons ve_bl (va_cons (ve_op op_pow Op2.pow ve_int ve_int) va_nil))))))) va_nil)))
  (vss_cons (vs_set 13 sc_law.nd (ve_callH 1 F_l_pick (v_l_pick T) (hr.mono (by decide)) rfl T.D_l_pick.g T.D_l_pick.F.kp T.D_l_pick.b takes0 (pv 1) (va_cons (ve_lst (va_cons (ve_un un_neg Op1.neg ve_int) (va_cons (ve_n 2) (va_cons ve_non (va_cons (ve_s [48] (by decide +kernel)) (va_cons ve_bl (va_cons (ve_un un_neg Op1.neg (ve_op op_pow Op2.pow ve_int ve_int)) va_nil))))))) va_nil)))
  (vss_cons (vs_for PassesOwn.never (by rfl) (vi_range1 (by rfl) T.b_range (va_cons ve_int va_nil)) (vg_n 14 sc_law.nd)
  (vss_cons (vs_if (VW.vt (vw_or (vt_cmp (op_neB rfl hr.units) Op2.ne (ve_call F_l_fault (v_l_fault T) (hr.mono (by decide)) rfl T.D_l_fault.g T.D_l_fault.F.kp T.D_l_fault.b takes0 (va_cons (ve_n 14) (va_cons (ve_n 6) (va_cons (ve_n 12) (va_cons (ve_n 13) va_nil))))) (ve_tup (va_cons (ve_s [99, 111, 108, 117, 109, 110] (by decide +kernel)) (va_cons (ve_n 12) (va_cons ve_bl va_nil)))) (nomark _)) (vw_or1 (vt_cmp (op_neB rfl hr.units) Op2.ne (ve_call F_l_fault (v_l_fault T) (hr.mono (by decide)) rfl T.D_l_fault.g T.D_l_fault.F.kp T.D_l_fault.b takes0 (va_cons (ve_n 14) (va_cons (ve_n 6) (va_cons ve_int (va_cons (ve_n 13) va_nil))))) (ve_tup (va_cons (ve_s [108, 97, 121, 101, 114] (by decide +kernel)) (va_cons (ve_n 13) (va_cons ve_bl va_nil)))) (nomark _)))))
  (vss_one (vs_ret ve_bl))
  vss_nil)
  (vss_one (vs_if (VW.vt (vw_or (vt_cmp (op_neB rfl hr.units) Op2.ne (ve_call F_l_fault (v_l_fault T) (hr.mono (by decide)) rfl T.D_l_fault.g T.D_l_fault.F.kp T.D_l_fault.b takes0 (va_cons (ve_n 14) (va_cons (ve_n 6) (va_cons (ve_n 12) (va_cons ve_int va_nil))))) (ve_tup (va_cons (ve_s [99, 111, 108, 117, 109, 110] (by decide +kernel)) (va_cons (ve_n 12) (va_cons ve_bl va_nil)))) (nomark _)) (vw_or1 (vt_cmp op_notN Op2.notN (ve_call F_l_fault (v_l_fault T) (hr.mono (by decide)) rfl T.D_l_fault.g T.D_l_fault.F.kp T.D_l_fault.b takes0 (va_cons (ve_n 14) (va_cons (ve_n 6) (va_cons (ve_op op_sub Op2.sub (ve_n 3) ve_int) (va_cons (ve_op op_sub Op2.sub (ve_n 2) ve_int) va_nil))))) ve_non (nomark _)))))
  (vss_one (vs_ret ve_bl))
  vss_nil))))
  (vss_one (vs_ret (ve_call F_l_layer_right (v_l_layer_right T) (hr.mono (by decide)) rfl T.D_l_layer_right.g T.D_l_layer_right.F.kp T.D_l_layer_right.b takes0 (va_cons (ve_n 6) (va_cons (ve_ix (ix_A rfl) Op2.ix (ve_n 4) ve_int (fun _ _ => rfl)) (va_cons ve_int (va_cons (ve_callH 1 F_l_draw (v_l_draw T) (hr.mono (by decide)) rfl T.D_l_draw.g T.D_l_draw.F.kp T.D_l_draw.b takes0 (pv 1) (va_cons (ve_n 2) va_nil)) va_nil)))))))))))))))), ?_⟩
  refine ⟨_, rfl, a, ns, rfl, hS, hl, fun p l H' st s1 e1 e2 hA hok => ?_⟩
  obtain ⟨s', e⟩ := pure_ st hok
  exact law_go (n := 15) (by decide) rfl rfl hA s1 e1 e2 e fun H' => q H'
theorem ok_law (T : Top K mg AD) : FnOk P w K mg base CX0 8 AD.f_law AD.d_law P_law (spLaw K) := ok_law0 T Vv.law_pure
end
theorem all_mk {P : Program} {w : World} {K : PySem.W.Frag} {h : Heap} {mg : Str → Option Value} {fa : Addr} (X : K.In h) (G : h.Ns mainGlobals mg) (hfa : mg "law" = some (.ref fa))
    {C_CardError C_NoColumn C_BadColumn C_BadBoundary C_BadCard C_BadPlace C_NoLayer C_Column C_Card f_is_number f_is_whole f_is_sequence f_word_fault f_common_steps f_check_columns f_mark_of f_new_marks f_check_column f_check_layer f_step_layers f_layer_of f_layer_steps f_middle_of f_middles f_thickness f_touching f_l_mix f_l_hand f_l_draw f_l_word f_l_near f_l_words f_l_heights f_l_common f_l_pick f_l_sizes f_l_slits f_l_card f_l_number f_l_rows f_l_place f_l_steps f_l_fault f_l_middles f_l_touching f_l_layer_right f_law f_NoColumn___init__ f_BadColumn___init__ f_BadBoundary___init__ f_BadCard___init__ f_BadPlace___init__ f_NoLayer___init__ f_Column___init__ f_Column_many f_Column_place f_Column_height f_Column_heights p_Column_heights f_Column___eq__ f_Column___str__ f_Column___len__ f_Column___iter__ f_Card___init__ de_Card___init__ f_Card_common f_Card___eq__ f_Card___len__ f_Card___iter__ : Addr}
    {od_is_number : Option Addr}
    {an_is_number : Option Addr}
    {sl_is_number : Array (Option Value)}
    {oc_is_number kV_is_number dc_is_number pm_is_number cd_is_number ct_is_number : Value}
    {od_is_whole : Option Addr}
    {an_is_whole : Option Addr}
    {sl_is_whole : Array (Option Value)}
    {oc_is_whole kV_is_whole dc_is_whole pm_is_whole cd_is_whole ct_is_whole : Value}
    {od_is_sequence : Option Addr}
    {an_is_sequence : Option Addr}
    {sl_is_sequence : Array (Option Value)}
    {oc_is_sequence kV_is_sequence dc_is_sequence pm_is_sequence cd_is_sequence ct_is_sequence : Value}
    {od_word_fault : Option Addr}
    {an_word_fault : Option Addr}
    {sl_word_fault : Array (Option Value)}
    {oc_word_fault kV_word_fault dc_word_fault pm_word_fault cd_word_fault ct_word_fault : Value}
    {od_common_steps : Option Addr}
    {an_common_steps : Option Addr}
    {sl_common_steps : Array (Option Value)}
    {oc_common_steps kV_common_steps dc_common_steps pm_common_steps cd_common_steps ct_common_steps : Value}
    {od_check_columns : Option Addr}
    {an_check_columns : Option Addr}
    {sl_check_columns : Array (Option Value)}
    {oc_check_columns kV_check_columns dc_check_columns pm_check_columns cd_check_columns ct_check_columns : Value}
    {od_mark_of : Option Addr}
    {an_mark_of : Option Addr}
    {sl_mark_of : Array (Option Value)}
    {oc_mark_of kV_mark_of dc_mark_of pm_mark_of cd_mark_of ct_mark_of : Value}
    {od_new_marks : Option Addr}
    {an_new_marks : Option Addr}
    {sl_new_marks : Array (Option Value)}
    {oc_new_marks kV_new_marks dc_new_marks pm_new_marks cd_new_marks ct_new_marks : Value}
    {od_check_column : Option Addr}
    {an_check_column : Option Addr}
    {sl_check_column : Array (Option Value)}
    {oc_check_column kV_check_column dc_check_column pm_check_column cd_check_column ct_check_column : Value}
    {od_check_layer : Option Addr}
    {an_check_layer : Option Addr}
    {sl_check_layer : Array (Option Value)}
    {oc_check_layer kV_check_layer dc_check_layer pm_check_layer cd_check_layer ct_check_layer : Value}
    {od_step_layers : Option Addr}
    {an_step_layers : Option Addr}
    {sl_step_layers : Array (Option Value)}
    {oc_step_layers kV_step_layers dc_step_layers pm_step_layers cd_step_layers ct_step_layers : Value}
    {od_layer_of : Option Addr}
    {an_layer_of : Option Addr}
    {sl_layer_of : Array (Option Value)}
    {oc_layer_of kV_layer_of dc_layer_of pm_layer_of cd_layer_of ct_layer_of : Value}
    {od_layer_steps : Option Addr}
    {an_layer_steps : Option Addr}
    {sl_layer_steps : Array (Option Value)}
    {oc_layer_steps kV_layer_steps dc_layer_steps pm_layer_steps cd_layer_steps ct_layer_steps : Value}
    {od_middle_of : Option Addr}
    {an_middle_of : Option Addr}
    {sl_middle_of : Array (Option Value)}
    {oc_middle_of kV_middle_of dc_middle_of pm_middle_of cd_middle_of ct_middle_of : Value}
    {od_middles : Option Addr}
    {an_middles : Option Addr}
    {sl_middles : Array (Option Value)}
    {oc_middles kV_middles dc_middles pm_middles cd_middles ct_middles : Value}
    {od_thickness : Option Addr}
    {an_thickness : Option Addr}
    {sl_thickness : Array (Option Value)}
    {oc_thickness kV_thickness dc_thickness pm_thickness cd_thickness ct_thickness : Value}
    {od_touching : Option Addr}
    {an_touching : Option Addr}
    {sl_touching : Array (Option Value)}
    {oc_touching kV_touching dc_touching pm_touching cd_touching ct_touching : Value}
    {od_l_mix : Option Addr}
    {an_l_mix : Option Addr}
    {sl_l_mix : Array (Option Value)}
    {oc_l_mix kV_l_mix dc_l_mix pm_l_mix cd_l_mix ct_l_mix : Value}
    {od_l_hand : Option Addr}
    {an_l_hand : Option Addr}
    {sl_l_hand : Array (Option Value)}
    {oc_l_hand kV_l_hand dc_l_hand pm_l_hand cd_l_hand ct_l_hand : Value}
    {od_l_draw : Option Addr}
    {an_l_draw : Option Addr}
    {sl_l_draw : Array (Option Value)}
    {oc_l_draw kV_l_draw dc_l_draw pm_l_draw cd_l_draw ct_l_draw : Value}
    {od_l_word : Option Addr}
    {an_l_word : Option Addr}
    {sl_l_word : Array (Option Value)}
    {oc_l_word kV_l_word dc_l_word pm_l_word cd_l_word ct_l_word : Value}
    {od_l_near : Option Addr}
    {an_l_near : Option Addr}
    {sl_l_near : Array (Option Value)}
    {oc_l_near kV_l_near dc_l_near pm_l_near cd_l_near ct_l_near : Value}
    {od_l_words : Option Addr}
    {an_l_words : Option Addr}
    {sl_l_words : Array (Option Value)}
    {oc_l_words kV_l_words dc_l_words pm_l_words cd_l_words ct_l_words : Value}
    {od_l_heights : Option Addr}
    {an_l_heights : Option Addr}
    {sl_l_heights : Array (Option Value)}
    {oc_l_heights kV_l_heights dc_l_heights pm_l_heights cd_l_heights ct_l_heights : Value}
    {od_l_common : Option Addr}
    {an_l_common : Option Addr}
    {sl_l_common : Array (Option Value)}
    {oc_l_common kV_l_common dc_l_common pm_l_common cd_l_common ct_l_common : Value}
    {od_l_pick : Option Addr}
    {an_l_pick : Option Addr}
    {sl_l_pick : Array (Option Value)}
    {oc_l_pick kV_l_pick dc_l_pick pm_l_pick cd_l_pick ct_l_pick : Value}
    {od_l_sizes : Option Addr}
    {an_l_sizes : Option Addr}
    {sl_l_sizes : Array (Option Value)}
    {oc_l_sizes kV_l_sizes dc_l_sizes pm_l_sizes cd_l_sizes ct_l_sizes : Value}
    {od_l_slits : Option Addr}
    {an_l_slits : Option Addr}
    {sl_l_slits : Array (Option Value)}
    {oc_l_slits kV_l_slits dc_l_slits pm_l_slits cd_l_slits ct_l_slits : Value}
    {od_l_card : Option Addr}
    {an_l_card : Option Addr}
    {sl_l_card : Array (Option Value)}
    {oc_l_card kV_l_card dc_l_card pm_l_card cd_l_card ct_l_card : Value}
    {od_l_number : Option Addr}
    {an_l_number : Option Addr}
    {sl_l_number : Array (Option Value)}
    {oc_l_number kV_l_number dc_l_number pm_l_number cd_l_number ct_l_number : Value}
    {od_l_rows : Option Addr}
    {an_l_rows : Option Addr}
    {sl_l_rows : Array (Option Value)}
    {oc_l_rows kV_l_rows dc_l_rows pm_l_rows cd_l_rows ct_l_rows : Value}
    {od_l_place : Option Addr}
    {an_l_place : Option Addr}
    {sl_l_place : Array (Option Value)}
    {oc_l_place kV_l_place dc_l_place pm_l_place cd_l_place ct_l_place : Value}
    {od_l_steps : Option Addr}
    {an_l_steps : Option Addr}
    {sl_l_steps : Array (Option Value)}
    {oc_l_steps kV_l_steps dc_l_steps pm_l_steps cd_l_steps ct_l_steps : Value}
    {od_l_fault : Option Addr}
    {an_l_fault : Option Addr}
    {sl_l_fault : Array (Option Value)}
    {oc_l_fault kV_l_fault dc_l_fault pm_l_fault cd_l_fault ct_l_fault : Value}
    {od_l_middles : Option Addr}
    {an_l_middles : Option Addr}
    {sl_l_middles : Array (Option Value)}
    {oc_l_middles kV_l_middles dc_l_middles pm_l_middles cd_l_middles ct_l_middles : Value}
    {od_l_touching : Option Addr}
    {an_l_touching : Option Addr}
    {sl_l_touching : Array (Option Value)}
    {oc_l_touching kV_l_touching dc_l_touching pm_l_touching cd_l_touching ct_l_touching : Value}
    {od_l_layer_right : Option Addr}
    {an_l_layer_right : Option Addr}
    {sl_l_layer_right : Array (Option Value)}
    {oc_l_layer_right kV_l_layer_right dc_l_layer_right pm_l_layer_right cd_l_layer_right ct_l_layer_right : Value}
    {od_law : Option Addr}
    {an_law : Option Addr}
    {sl_law : Array (Option Value)}
    {oc_law kV_law dc_law pm_law cd_law ct_law : Value}
    {od_NoColumn___init__ : Option Addr}
    {an_NoColumn___init__ : Option Addr}
    {sl_NoColumn___init__ : Array (Option Value)}
    {oc_NoColumn___init__ kV_NoColumn___init__ dc_NoColumn___init__ pm_NoColumn___init__ cd_NoColumn___init__ ct_NoColumn___init__ : Value}
    {od_BadColumn___init__ : Option Addr}
    {an_BadColumn___init__ : Option Addr}
    {sl_BadColumn___init__ : Array (Option Value)}
    {oc_BadColumn___init__ kV_BadColumn___init__ dc_BadColumn___init__ pm_BadColumn___init__ cd_BadColumn___init__ ct_BadColumn___init__ : Value}
    {od_BadBoundary___init__ : Option Addr}
    {an_BadBoundary___init__ : Option Addr}
    {sl_BadBoundary___init__ : Array (Option Value)}
    {oc_BadBoundary___init__ kV_BadBoundary___init__ dc_BadBoundary___init__ pm_BadBoundary___init__ cd_BadBoundary___init__ ct_BadBoundary___init__ : Value}
    {od_BadCard___init__ : Option Addr}
    {an_BadCard___init__ : Option Addr}
    {sl_BadCard___init__ : Array (Option Value)}
    {oc_BadCard___init__ kV_BadCard___init__ dc_BadCard___init__ pm_BadCard___init__ cd_BadCard___init__ ct_BadCard___init__ : Value}
    {od_BadPlace___init__ : Option Addr}
    {an_BadPlace___init__ : Option Addr}
    {sl_BadPlace___init__ : Array (Option Value)}
    {oc_BadPlace___init__ kV_BadPlace___init__ dc_BadPlace___init__ pm_BadPlace___init__ cd_BadPlace___init__ ct_BadPlace___init__ : Value}
    {od_NoLayer___init__ : Option Addr}
    {an_NoLayer___init__ : Option Addr}
    {sl_NoLayer___init__ : Array (Option Value)}
    {oc_NoLayer___init__ kV_NoLayer___init__ dc_NoLayer___init__ pm_NoLayer___init__ cd_NoLayer___init__ ct_NoLayer___init__ : Value}
    {od_Column___init__ : Option Addr}
    {an_Column___init__ : Option Addr}
    {sl_Column___init__ : Array (Option Value)}
    {oc_Column___init__ kV_Column___init__ dc_Column___init__ pm_Column___init__ cd_Column___init__ ct_Column___init__ : Value}
    {od_Column_many : Option Addr}
    {an_Column_many : Option Addr}
    {sl_Column_many : Array (Option Value)}
    {oc_Column_many kV_Column_many dc_Column_many pm_Column_many cd_Column_many ct_Column_many : Value}
    {od_Column_place : Option Addr}
    {an_Column_place : Option Addr}
    {sl_Column_place : Array (Option Value)}
    {oc_Column_place kV_Column_place dc_Column_place pm_Column_place cd_Column_place ct_Column_place : Value}
    {od_Column_height : Option Addr}
    {an_Column_height : Option Addr}
    {sl_Column_height : Array (Option Value)}
    {oc_Column_height kV_Column_height dc_Column_height pm_Column_height cd_Column_height ct_Column_height : Value}
    {od_Column_heights : Option Addr}
    {an_Column_heights : Option Addr}
    {sl_Column_heights : Array (Option Value)}
    {oc_Column_heights kV_Column_heights dc_Column_heights pm_Column_heights cd_Column_heights ct_Column_heights : Value}
    {re_Column_heights : List Value}
    {od_Column___eq__ : Option Addr}
    {an_Column___eq__ : Option Addr}
    {sl_Column___eq__ : Array (Option Value)}
    {oc_Column___eq__ kV_Column___eq__ dc_Column___eq__ pm_Column___eq__ cd_Column___eq__ ct_Column___eq__ : Value}
    {od_Column___str__ : Option Addr}
    {an_Column___str__ : Option Addr}
    {sl_Column___str__ : Array (Option Value)}
    {oc_Column___str__ kV_Column___str__ dc_Column___str__ pm_Column___str__ cd_Column___str__ ct_Column___str__ : Value}
    {od_Column___len__ : Option Addr}
    {an_Column___len__ : Option Addr}
    {sl_Column___len__ : Array (Option Value)}
    {oc_Column___len__ kV_Column___len__ dc_Column___len__ pm_Column___len__ cd_Column___len__ ct_Column___len__ : Value}
    {od_Column___iter__ : Option Addr}
    {an_Column___iter__ : Option Addr}
    {sl_Column___iter__ : Array (Option Value)}
    {oc_Column___iter__ kV_Column___iter__ dc_Column___iter__ pm_Column___iter__ cd_Column___iter__ ct_Column___iter__ : Value}
    {od_Card___init__ : Option Addr}
    {an_Card___init__ : Option Addr}
    {sl_Card___init__ : Array (Option Value)}
    {oc_Card___init__ kV_Card___init__ dc_Card___init__ pm_Card___init__ cd_Card___init__ ct_Card___init__ : Value}
    {deo_Card___init__ : Option Addr} {den_Card___init__ : Nat} {des_Card___init__ : Array (Option Value)}
    {dt_Card___init__ : Addr}
    {dc0_Card___init__ : Value} {do_Card___init__ : Option Addr} {ds_Card___init__ : Array (Option Value)} {dn_Card___init__ : Nat} 
    {od_Card_common : Option Addr}
    {an_Card_common : Option Addr}
    {sl_Card_common : Array (Option Value)}
    {oc_Card_common kV_Card_common dc_Card_common pm_Card_common cd_Card_common ct_Card_common : Value}
    {od_Card___eq__ : Option Addr}
    {an_Card___eq__ : Option Addr}
    {sl_Card___eq__ : Array (Option Value)}
    {oc_Card___eq__ kV_Card___eq__ dc_Card___eq__ pm_Card___eq__ cd_Card___eq__ ct_Card___eq__ : Value}
    {od_Card___len__ : Option Addr}
    {an_Card___len__ : Option Addr}
    {sl_Card___len__ : Array (Option Value)}
    {oc_Card___len__ kV_Card___len__ dc_Card___len__ pm_Card___len__ cd_Card___len__ ct_Card___len__ : Value}
    {od_Card___iter__ : Option Addr}
    {an_Card___iter__ : Option Addr}
    {sl_Card___iter__ : Array (Option Value)}
    {oc_Card___iter__ kV_Card___iter__ dc_Card___iter__ pm_Card___iter__ cd_Card___iter__ ct_Card___iter__ : Value}
    {nm_NoColumn q_NoColumn : Str} {N_NoColumn : Addr} {bs_NoColumn bm_NoColumn sb_NoColumn : List Value} {sn_NoColumn : List Str} {ab_NoColumn : Bool} {co_NoColumn : Option Bool} {dd_NoColumn : Option Addr} {m0_NoColumn m1_NoColumn m2_NoColumn m3_NoColumn m5_NoColumn : Option Value}
    {nm_BadColumn q_BadColumn : Str} {N_BadColumn : Addr} {bs_BadColumn bm_BadColumn sb_BadColumn : List Value} {sn_BadColumn : List Str} {ab_BadColumn : Bool} {co_BadColumn : Option Bool} {dd_BadColumn : Option Addr} {m0_BadColumn m1_BadColumn m2_BadColumn m3_BadColumn m5_BadColumn : Option Value}
    {nm_BadBoundary q_BadBoundary : Str} {N_BadBoundary : Addr} {bs_BadBoundary bm_BadBoundary sb_BadBoundary : List Value} {sn_BadBoundary : List Str} {ab_BadBoundary : Bool} {co_BadBoundary : Option Bool} {dd_BadBoundary : Option Addr} {m0_BadBoundary m1_BadBoundary m2_BadBoundary m3_BadBoundary m5_BadBoundary : Option Value}
    {nm_BadCard q_BadCard : Str} {N_BadCard : Addr} {bs_BadCard bm_BadCard sb_BadCard : List Value} {sn_BadCard : List Str} {ab_BadCard : Bool} {co_BadCard : Option Bool} {dd_BadCard : Option Addr} {m0_BadCard m1_BadCard m2_BadCard m3_BadCard m5_BadCard : Option Value}
    {nm_BadPlace q_BadPlace : Str} {N_BadPlace : Addr} {bs_BadPlace bm_BadPlace sb_BadPlace : List Value} {sn_BadPlace : List Str} {ab_BadPlace : Bool} {co_BadPlace : Option Bool} {dd_BadPlace : Option Addr} {m0_BadPlace m1_BadPlace m2_BadPlace m3_BadPlace m5_BadPlace : Option Value}
    {nm_NoLayer q_NoLayer : Str} {N_NoLayer : Addr} {bs_NoLayer bm_NoLayer sb_NoLayer : List Value} {sn_NoLayer : List Str} {ab_NoLayer : Bool} {co_NoLayer : Option Bool} {dd_NoLayer : Option Addr} {m0_NoLayer m1_NoLayer m2_NoLayer m3_NoLayer m5_NoLayer : Option Value}
    {tk_MOST_SIZE : Tok}
    {tk_MOST_WIDTH : Tok}
    (ac_CardError : PySem.W.nsIn K mainGlobals "CardError" = some (some (.ref C_CardError)))
    (ac_NoColumn : PySem.W.nsIn K mainGlobals "NoColumn" = some (some (.ref C_NoColumn)))
    (ac_BadColumn : PySem.W.nsIn K mainGlobals "BadColumn" = some (some (.ref C_BadColumn)))
    (ac_BadBoundary : PySem.W.nsIn K mainGlobals "BadBoundary" = some (some (.ref C_BadBoundary)))
    (ac_BadCard : PySem.W.nsIn K mainGlobals "BadCard" = some (some (.ref C_BadCard)))
    (ac_BadPlace : PySem.W.nsIn K mainGlobals "BadPlace" = some (some (.ref C_BadPlace)))
    (ac_NoLayer : PySem.W.nsIn K mainGlobals "NoLayer" = some (some (.ref C_NoLayer)))
    (ac_Column : PySem.W.nsIn K mainGlobals "Column" = some (some (.ref C_Column)))
    (ac_Card : PySem.W.nsIn K mainGlobals "Card" = some (some (.ref C_Card)))
    (a_is_number : PySem.W.nsIn K mainGlobals "is_number" = some (some (.ref f_is_number)))
    (l_is_number : K.lookup f_is_number = some ⟨oc_is_number, od_is_number, .func (PySem.W.fnOf "is_number" "is_number" (defArgs s_is_number) (defBody s_is_number) (defScope s_is_number) .none kV_is_number dc_is_number pm_is_number an_is_number cd_is_number ct_is_number), sl_is_number⟩)
    (c_is_number : PySem.W.codeIn K cd_is_number "is_number" = true)
    (k_is_number : PySem.W.keepIn K (.ref f_is_number) = true)
    (a_is_whole : PySem.W.nsIn K mainGlobals "is_whole" = some (some (.ref f_is_whole)))
    (l_is_whole : K.lookup f_is_whole = some ⟨oc_is_whole, od_is_whole, .func (PySem.W.fnOf "is_whole" "is_whole" (defArgs s_is_whole) (defBody s_is_whole) (defScope s_is_whole) .none kV_is_whole dc_is_whole pm_is_whole an_is_whole cd_is_whole ct_is_whole), sl_is_whole⟩)
    (c_is_whole : PySem.W.codeIn K cd_is_whole "is_whole" = true)
    (k_is_whole : PySem.W.keepIn K (.ref f_is_whole) = true)
    (a_is_sequence : PySem.W.nsIn K mainGlobals "is_sequence" = some (some (.ref f_is_sequence)))
    (l_is_sequence : K.lookup f_is_sequence = some ⟨oc_is_sequence, od_is_sequence, .func (PySem.W.fnOf "is_sequence" "is_sequence" (defArgs s_is_sequence) (defBody s_is_sequence) (defScope s_is_sequence) .none kV_is_sequence dc_is_sequence pm_is_sequence an_is_sequence cd_is_sequence ct_is_sequence), sl_is_sequence⟩)
    (c_is_sequence : PySem.W.codeIn K cd_is_sequence "is_sequence" = true)
    (k_is_sequence : PySem.W.keepIn K (.ref f_is_sequence) = true)
    (a_word_fault : PySem.W.nsIn K mainGlobals "word_fault" = some (some (.ref f_word_fault)))
    (l_word_fault : K.lookup f_word_fault = some ⟨oc_word_fault, od_word_fault, .func (PySem.W.fnOf "word_fault" "word_fault" (defArgs s_word_fault) (defBody s_word_fault) (defScope s_word_fault) .none kV_word_fault dc_word_fault pm_word_fault an_word_fault cd_word_fault ct_word_fault), sl_word_fault⟩)
    (c_word_fault : PySem.W.codeIn K cd_word_fault "word_fault" = true)
    (k_word_fault : PySem.W.keepIn K (.ref f_word_fault) = true)
    (a_common_steps : PySem.W.nsIn K mainGlobals "common_steps" = some (some (.ref f_common_steps)))
    (l_common_steps : K.lookup f_common_steps = some ⟨oc_common_steps, od_common_steps, .func (PySem.W.fnOf "common_steps" "common_steps" (defArgs s_common_steps) (defBody s_common_steps) (defScope s_common_steps) .none kV_common_steps dc_common_steps pm_common_steps an_common_steps cd_common_steps ct_common_steps), sl_common_steps⟩)
    (c_common_steps : PySem.W.codeIn K cd_common_steps "common_steps" = true)
    (k_common_steps : PySem.W.keepIn K (.ref f_common_steps) = true)
    (a_check_columns : PySem.W.nsIn K mainGlobals "check_columns" = some (some (.ref f_check_columns)))
    (l_check_columns : K.lookup f_check_columns = some ⟨oc_check_columns, od_check_columns, .func (PySem.W.fnOf "check_columns" "check_columns" (defArgs s_check_columns) (defBody s_check_columns) (defScope s_check_columns) .none kV_check_columns dc_check_columns pm_check_columns an_check_columns cd_check_columns ct_check_columns), sl_check_columns⟩)
    (c_check_columns : PySem.W.codeIn K cd_check_columns "check_columns" = true)
    (k_check_columns : PySem.W.keepIn K (.ref f_check_columns) = true)
    (a_mark_of : PySem.W.nsIn K mainGlobals "mark_of" = some (some (.ref f_mark_of)))
    (l_mark_of : K.lookup f_mark_of = some ⟨oc_mark_of, od_mark_of, .func (PySem.W.fnOf "mark_of" "mark_of" (defArgs s_mark_of) (defBody s_mark_of) (defScope s_mark_of) .none kV_mark_of dc_mark_of pm_mark_of an_mark_of cd_mark_of ct_mark_of), sl_mark_of⟩)
    (c_mark_of : PySem.W.codeIn K cd_mark_of "mark_of" = true)
    (k_mark_of : PySem.W.keepIn K (.ref f_mark_of) = true)
    (a_new_marks : PySem.W.nsIn K mainGlobals "new_marks" = some (some (.ref f_new_marks)))
    (l_new_marks : K.lookup f_new_marks = some ⟨oc_new_marks, od_new_marks, .func (PySem.W.fnOf "new_marks" "new_marks" (defArgs s_new_marks) (defBody s_new_marks) (defScope s_new_marks) .none kV_new_marks dc_new_marks pm_new_marks an_new_marks cd_new_marks ct_new_marks), sl_new_marks⟩)
    (c_new_marks : PySem.W.codeIn K cd_new_marks "new_marks" = true)
    (k_new_marks : PySem.W.keepIn K (.ref f_new_marks) = true)
    (a_check_column : PySem.W.nsIn K mainGlobals "check_column" = some (some (.ref f_check_column)))
    (l_check_column : K.lookup f_check_column = some ⟨oc_check_column, od_check_column, .func (PySem.W.fnOf "check_column" "check_column" (defArgs s_check_column) (defBody s_check_column) (defScope s_check_column) .none kV_check_column dc_check_column pm_check_column an_check_column cd_check_column ct_check_column), sl_check_column⟩)
    (c_check_column : PySem.W.codeIn K cd_check_column "check_column" = true)
    (k_check_column : PySem.W.keepIn K (.ref f_check_column) = true)
    (a_check_layer : PySem.W.nsIn K mainGlobals "check_layer" = some (some (.ref f_check_layer)))
    (l_check_layer : K.lookup f_check_layer = some ⟨oc_check_layer, od_check_layer, .func (PySem.W.fnOf "check_layer" "check_layer" (defArgs s_check_layer) (defBody s_check_layer) (defScope s_check_layer) .none kV_check_layer dc_check_layer pm_check_layer an_check_layer cd_check_layer ct_check_layer), sl_check_layer⟩)
    (c_check_layer : PySem.W.codeIn K cd_check_layer "check_layer" = true)
    (k_check_layer : PySem.W.keepIn K (.ref f_check_layer) = true)
    (a_step_layers : PySem.W.nsIn K mainGlobals "step_layers" = some (some (.ref f_step_layers)))
    (l_step_layers : K.lookup f_step_layers = some ⟨oc_step_layers, od_step_layers, .func (PySem.W.fnOf "step_layers" "step_layers" (defArgs s_step_layers) (defBody s_step_layers) (defScope s_step_layers) .none kV_step_layers dc_step_layers pm_step_layers an_step_layers cd_step_layers ct_step_layers), sl_step_layers⟩)
    (c_step_layers : PySem.W.codeIn K cd_step_layers "step_layers" = true)
    (k_step_layers : PySem.W.keepIn K (.ref f_step_layers) = true)
    (a_layer_of : PySem.W.nsIn K mainGlobals "layer_of" = some (some (.ref f_layer_of)))
    (l_layer_of : K.lookup f_layer_of = some ⟨oc_layer_of, od_layer_of, .func (PySem.W.fnOf "layer_of" "layer_of" (defArgs s_layer_of) (defBody s_layer_of) (defScope s_layer_of) .none kV_layer_of dc_layer_of pm_layer_of an_layer_of cd_layer_of ct_layer_of), sl_layer_of⟩)
    (c_layer_of : PySem.W.codeIn K cd_layer_of "layer_of" = true)
    (k_layer_of : PySem.W.keepIn K (.ref f_layer_of) = true)
    (a_layer_steps : PySem.W.nsIn K mainGlobals "layer_steps" = some (some (.ref f_layer_steps)))
    (l_layer_steps : K.lookup f_layer_steps = some ⟨oc_layer_steps, od_layer_steps, .func (PySem.W.fnOf "layer_steps" "layer_steps" (defArgs s_layer_steps) (defBody s_layer_steps) (defScope s_layer_steps) .none kV_layer_steps dc_layer_steps pm_layer_steps an_layer_steps cd_layer_steps ct_layer_steps), sl_layer_steps⟩)
    (c_layer_steps : PySem.W.codeIn K cd_layer_steps "layer_steps" = true)
    (k_layer_steps : PySem.W.keepIn K (.ref f_layer_steps) = true)
    (a_middle_of : PySem.W.nsIn K mainGlobals "middle_of" = some (some (.ref f_middle_of)))
    (l_middle_of : K.lookup f_middle_of = some ⟨oc_middle_of, od_middle_of, .func (PySem.W.fnOf "middle_of" "middle_of" (defArgs s_middle_of) (defBody s_middle_of) (defScope s_middle_of) .none kV_middle_of dc_middle_of pm_middle_of an_middle_of cd_middle_of ct_middle_of), sl_middle_of⟩)
    (c_middle_of : PySem.W.codeIn K cd_middle_of "middle_of" = true)
    (k_middle_of : PySem.W.keepIn K (.ref f_middle_of) = true)
    (a_middles : PySem.W.nsIn K mainGlobals "middles" = some (some (.ref f_middles)))
    (l_middles : K.lookup f_middles = some ⟨oc_middles, od_middles, .func (PySem.W.fnOf "middles" "middles" (defArgs s_middles) (defBody s_middles) (defScope s_middles) .none kV_middles dc_middles pm_middles an_middles cd_middles ct_middles), sl_middles⟩)
    (c_middles : PySem.W.codeIn K cd_middles "middles" = true)
    (k_middles : PySem.W.keepIn K (.ref f_middles) = true)
    (a_thickness : PySem.W.nsIn K mainGlobals "thickness" = some (some (.ref f_thickness)))
    (l_thickness : K.lookup f_thickness = some ⟨oc_thickness, od_thickness, .func (PySem.W.fnOf "thickness" "thickness" (defArgs s_thickness) (defBody s_thickness) (defScope s_thickness) .none kV_thickness dc_thickness pm_thickness an_thickness cd_thickness ct_thickness), sl_thickness⟩)
    (c_thickness : PySem.W.codeIn K cd_thickness "thickness" = true)
    (k_thickness : PySem.W.keepIn K (.ref f_thickness) = true)
    (a_touching : PySem.W.nsIn K mainGlobals "touching" = some (some (.ref f_touching)))
    (l_touching : K.lookup f_touching = some ⟨oc_touching, od_touching, .func (PySem.W.fnOf "touching" "touching" (defArgs s_touching) (defBody s_touching) (defScope s_touching) .none kV_touching dc_touching pm_touching an_touching cd_touching ct_touching), sl_touching⟩)
    (c_touching : PySem.W.codeIn K cd_touching "touching" = true)
    (k_touching : PySem.W.keepIn K (.ref f_touching) = true)
    (a_l_mix : PySem.W.nsIn K mainGlobals "_law_mix" = some (some (.ref f_l_mix)))
    (l_l_mix : K.lookup f_l_mix = some ⟨oc_l_mix, od_l_mix, .func (PySem.W.fnOf "_law_mix" "_law_mix" (defArgs s_l_mix) (defBody s_l_mix) (defScope s_l_mix) .none kV_l_mix dc_l_mix pm_l_mix an_l_mix cd_l_mix ct_l_mix), sl_l_mix⟩)
    (c_l_mix : PySem.W.codeIn K cd_l_mix "_law_mix" = true)
    (k_l_mix : PySem.W.keepIn K (.ref f_l_mix) = true)
    (a_l_hand : PySem.W.nsIn K mainGlobals "_law_hand" = some (some (.ref f_l_hand)))
    (l_l_hand : K.lookup f_l_hand = some ⟨oc_l_hand, od_l_hand, .func (PySem.W.fnOf "_law_hand" "_law_hand" (defArgs s_l_hand) (defBody s_l_hand) (defScope s_l_hand) .none kV_l_hand dc_l_hand pm_l_hand an_l_hand cd_l_hand ct_l_hand), sl_l_hand⟩)
    (c_l_hand : PySem.W.codeIn K cd_l_hand "_law_hand" = true)
    (k_l_hand : PySem.W.keepIn K (.ref f_l_hand) = true)
    (a_l_draw : PySem.W.nsIn K mainGlobals "_law_draw" = some (some (.ref f_l_draw)))
    (l_l_draw : K.lookup f_l_draw = some ⟨oc_l_draw, od_l_draw, .func (PySem.W.fnOf "_law_draw" "_law_draw" (defArgs s_l_draw) (defBody s_l_draw) (defScope s_l_draw) .none kV_l_draw dc_l_draw pm_l_draw an_l_draw cd_l_draw ct_l_draw), sl_l_draw⟩)
    (c_l_draw : PySem.W.codeIn K cd_l_draw "_law_draw" = true)
    (k_l_draw : PySem.W.keepIn K (.ref f_l_draw) = true)
    (a_l_word : PySem.W.nsIn K mainGlobals "_law_word" = some (some (.ref f_l_word)))
    (l_l_word : K.lookup f_l_word = some ⟨oc_l_word, od_l_word, .func (PySem.W.fnOf "_law_word" "_law_word" (defArgs s_l_word) (defBody s_l_word) (defScope s_l_word) .none kV_l_word dc_l_word pm_l_word an_l_word cd_l_word ct_l_word), sl_l_word⟩)
    (c_l_word : PySem.W.codeIn K cd_l_word "_law_word" = true)
    (k_l_word : PySem.W.keepIn K (.ref f_l_word) = true)
    (a_l_near : PySem.W.nsIn K mainGlobals "_law_near" = some (some (.ref f_l_near)))
    (l_l_near : K.lookup f_l_near = some ⟨oc_l_near, od_l_near, .func (PySem.W.fnOf "_law_near" "_law_near" (defArgs s_l_near) (defBody s_l_near) (defScope s_l_near) .none kV_l_near dc_l_near pm_l_near an_l_near cd_l_near ct_l_near), sl_l_near⟩)
    (c_l_near : PySem.W.codeIn K cd_l_near "_law_near" = true)
    (k_l_near : PySem.W.keepIn K (.ref f_l_near) = true)
    (a_l_words : PySem.W.nsIn K mainGlobals "_law_words" = some (some (.ref f_l_words)))
    (l_l_words : K.lookup f_l_words = some ⟨oc_l_words, od_l_words, .func (PySem.W.fnOf "_law_words" "_law_words" (defArgs s_l_words) (defBody s_l_words) (defScope s_l_words) .none kV_l_words dc_l_words pm_l_words an_l_words cd_l_words ct_l_words), sl_l_words⟩)
    (c_l_words : PySem.W.codeIn K cd_l_words "_law_words" = true)
    (k_l_words : PySem.W.keepIn K (.ref f_l_words) = true)
    (a_l_heights : PySem.W.nsIn K mainGlobals "_law_heights" = some (some (.ref f_l_heights)))
    (l_l_heights : K.lookup f_l_heights = some ⟨oc_l_heights, od_l_heights, .func (PySem.W.fnOf "_law_heights" "_law_heights" (defArgs s_l_heights) (defBody s_l_heights) (defScope s_l_heights) .none kV_l_heights dc_l_heights pm_l_heights an_l_heights cd_l_heights ct_l_heights), sl_l_heights⟩)
    (c_l_heights : PySem.W.codeIn K cd_l_heights "_law_heights" = true)
    (k_l_heights : PySem.W.keepIn K (.ref f_l_heights) = true)
    (a_l_common : PySem.W.nsIn K mainGlobals "_law_common" = some (some (.ref f_l_common)))
    (l_l_common : K.lookup f_l_common = some ⟨oc_l_common, od_l_common, .func (PySem.W.fnOf "_law_common" "_law_common" (defArgs s_l_common) (defBody s_l_common) (defScope s_l_common) .none kV_l_common dc_l_common pm_l_common an_l_common cd_l_common ct_l_common), sl_l_common⟩)
    (c_l_common : PySem.W.codeIn K cd_l_common "_law_common" = true)
    (k_l_common : PySem.W.keepIn K (.ref f_l_common) = true)
    (a_l_pick : PySem.W.nsIn K mainGlobals "_law_pick" = some (some (.ref f_l_pick)))
    (l_l_pick : K.lookup f_l_pick = some ⟨oc_l_pick, od_l_pick, .func (PySem.W.fnOf "_law_pick" "_law_pick" (defArgs s_l_pick) (defBody s_l_pick) (defScope s_l_pick) .none kV_l_pick dc_l_pick pm_l_pick an_l_pick cd_l_pick ct_l_pick), sl_l_pick⟩)
    (c_l_pick : PySem.W.codeIn K cd_l_pick "_law_pick" = true)
    (k_l_pick : PySem.W.keepIn K (.ref f_l_pick) = true)
    (a_l_sizes : PySem.W.nsIn K mainGlobals "_law_sizes" = some (some (.ref f_l_sizes)))
    (l_l_sizes : K.lookup f_l_sizes = some ⟨oc_l_sizes, od_l_sizes, .func (PySem.W.fnOf "_law_sizes" "_law_sizes" (defArgs s_l_sizes) (defBody s_l_sizes) (defScope s_l_sizes) .none kV_l_sizes dc_l_sizes pm_l_sizes an_l_sizes cd_l_sizes ct_l_sizes), sl_l_sizes⟩)
    (c_l_sizes : PySem.W.codeIn K cd_l_sizes "_law_sizes" = true)
    (k_l_sizes : PySem.W.keepIn K (.ref f_l_sizes) = true)
    (a_l_slits : PySem.W.nsIn K mainGlobals "_law_slits" = some (some (.ref f_l_slits)))
    (l_l_slits : K.lookup f_l_slits = some ⟨oc_l_slits, od_l_slits, .func (PySem.W.fnOf "_law_slits" "_law_slits" (defArgs s_l_slits) (defBody s_l_slits) (defScope s_l_slits) .none kV_l_slits dc_l_slits pm_l_slits an_l_slits cd_l_slits ct_l_slits), sl_l_slits⟩)
    (c_l_slits : PySem.W.codeIn K cd_l_slits "_law_slits" = true)
    (k_l_slits : PySem.W.keepIn K (.ref f_l_slits) = true)
    (a_l_card : PySem.W.nsIn K mainGlobals "_law_card" = some (some (.ref f_l_card)))
    (l_l_card : K.lookup f_l_card = some ⟨oc_l_card, od_l_card, .func (PySem.W.fnOf "_law_card" "_law_card" (defArgs s_l_card) (defBody s_l_card) (defScope s_l_card) .none kV_l_card dc_l_card pm_l_card an_l_card cd_l_card ct_l_card), sl_l_card⟩)
    (c_l_card : PySem.W.codeIn K cd_l_card "_law_card" = true)
    (k_l_card : PySem.W.keepIn K (.ref f_l_card) = true)
    (a_l_number : PySem.W.nsIn K mainGlobals "_law_number" = some (some (.ref f_l_number)))
    (l_l_number : K.lookup f_l_number = some ⟨oc_l_number, od_l_number, .func (PySem.W.fnOf "_law_number" "_law_number" (defArgs s_l_number) (defBody s_l_number) (defScope s_l_number) .none kV_l_number dc_l_number pm_l_number an_l_number cd_l_number ct_l_number), sl_l_number⟩)
    (c_l_number : PySem.W.codeIn K cd_l_number "_law_number" = true)
    (k_l_number : PySem.W.keepIn K (.ref f_l_number) = true)
    (a_l_rows : PySem.W.nsIn K mainGlobals "_law_rows" = some (some (.ref f_l_rows)))
    (l_l_rows : K.lookup f_l_rows = some ⟨oc_l_rows, od_l_rows, .func (PySem.W.fnOf "_law_rows" "_law_rows" (defArgs s_l_rows) (defBody s_l_rows) (defScope s_l_rows) .none kV_l_rows dc_l_rows pm_l_rows an_l_rows cd_l_rows ct_l_rows), sl_l_rows⟩)
    (c_l_rows : PySem.W.codeIn K cd_l_rows "_law_rows" = true)
    (k_l_rows : PySem.W.keepIn K (.ref f_l_rows) = true)
    (a_l_place : PySem.W.nsIn K mainGlobals "_law_place" = some (some (.ref f_l_place)))
    (l_l_place : K.lookup f_l_place = some ⟨oc_l_place, od_l_place, .func (PySem.W.fnOf "_law_place" "_law_place" (defArgs s_l_place) (defBody s_l_place) (defScope s_l_place) .none kV_l_place dc_l_place pm_l_place an_l_place cd_l_place ct_l_place), sl_l_place⟩)
    (c_l_place : PySem.W.codeIn K cd_l_place "_law_place" = true)
    (k_l_place : PySem.W.keepIn K (.ref f_l_place) = true)
    (a_l_steps : PySem.W.nsIn K mainGlobals "_law_steps" = some (some (.ref f_l_steps)))
    (l_l_steps : K.lookup f_l_steps = some ⟨oc_l_steps, od_l_steps, .func (PySem.W.fnOf "_law_steps" "_law_steps" (defArgs s_l_steps) (defBody s_l_steps) (defScope s_l_steps) .none kV_l_steps dc_l_steps pm_l_steps an_l_steps cd_l_steps ct_l_steps), sl_l_steps⟩)
    (c_l_steps : PySem.W.codeIn K cd_l_steps "_law_steps" = true)
    (k_l_steps : PySem.W.keepIn K (.ref f_l_steps) = true)
    (a_l_fault : PySem.W.nsIn K mainGlobals "_law_fault" = some (some (.ref f_l_fault)))
    (l_l_fault : K.lookup f_l_fault = some ⟨oc_l_fault, od_l_fault, .func (PySem.W.fnOf "_law_fault" "_law_fault" (defArgs s_l_fault) (defBody s_l_fault) (defScope s_l_fault) .none kV_l_fault dc_l_fault pm_l_fault an_l_fault cd_l_fault ct_l_fault), sl_l_fault⟩)
    (c_l_fault : PySem.W.codeIn K cd_l_fault "_law_fault" = true)
    (k_l_fault : PySem.W.keepIn K (.ref f_l_fault) = true)
    (a_l_middles : PySem.W.nsIn K mainGlobals "_law_middles" = some (some (.ref f_l_middles)))
    (l_l_middles : K.lookup f_l_middles = some ⟨oc_l_middles, od_l_middles, .func (PySem.W.fnOf "_law_middles" "_law_middles" (defArgs s_l_middles) (defBody s_l_middles) (defScope s_l_middles) .none kV_l_middles dc_l_middles pm_l_middles an_l_middles cd_l_middles ct_l_middles), sl_l_middles⟩)
    (c_l_middles : PySem.W.codeIn K cd_l_middles "_law_middles" = true)
    (k_l_middles : PySem.W.keepIn K (.ref f_l_middles) = true)
    (a_l_touching : PySem.W.nsIn K mainGlobals "_law_touching" = some (some (.ref f_l_touching)))
    (l_l_touching : K.lookup f_l_touching = some ⟨oc_l_touching, od_l_touching, .func (PySem.W.fnOf "_law_touching" "_law_touching" (defArgs s_l_touching) (defBody s_l_touching) (defScope s_l_touching) .none kV_l_touching dc_l_touching pm_l_touching an_l_touching cd_l_touching ct_l_touching), sl_l_touching⟩)
    (c_l_touching : PySem.W.codeIn K cd_l_touching "_law_touching" = true)
    (k_l_touching : PySem.W.keepIn K (.ref f_l_touching) = true)
    (a_l_layer_right : PySem.W.nsIn K mainGlobals "_law_layer_right" = some (some (.ref f_l_layer_right)))
    (l_l_layer_right : K.lookup f_l_layer_right = some ⟨oc_l_layer_right, od_l_layer_right, .func (PySem.W.fnOf "_law_layer_right" "_law_layer_right" (defArgs s_l_layer_right) (defBody s_l_layer_right) (defScope s_l_layer_right) .none kV_l_layer_right dc_l_layer_right pm_l_layer_right an_l_layer_right cd_l_layer_right ct_l_layer_right), sl_l_layer_right⟩)
    (c_l_layer_right : PySem.W.codeIn K cd_l_layer_right "_law_layer_right" = true)
    (k_l_layer_right : PySem.W.keepIn K (.ref f_l_layer_right) = true)
    (a_law : PySem.W.nsIn K mainGlobals "law" = some (some (.ref f_law)))
    (l_law : K.lookup f_law = some ⟨oc_law, od_law, .func (PySem.W.fnOf "law" "law" (defArgs s_law) (defBody s_law) (defScope s_law) .none kV_law dc_law pm_law an_law cd_law ct_law), sl_law⟩)
    (c_law : PySem.W.codeIn K cd_law "law" = true)
    (k_law : PySem.W.keepIn K (.ref f_law) = true)
    (a_NoColumn___init__ : PySem.W.findIn K (.ref C_NoColumn) "__init__" = some (some (.ref f_NoColumn___init__)))
    (l_NoColumn___init__ : K.lookup f_NoColumn___init__ = some ⟨oc_NoColumn___init__, od_NoColumn___init__, .func (PySem.W.fnOf "__init__" "NoColumn.__init__" (defArgs s_NoColumn___init__) (defBody s_NoColumn___init__) (defScope s_NoColumn___init__) .none kV_NoColumn___init__ dc_NoColumn___init__ pm_NoColumn___init__ an_NoColumn___init__ cd_NoColumn___init__ ct_NoColumn___init__), sl_NoColumn___init__⟩)
    (c_NoColumn___init__ : PySem.W.codeIn K cd_NoColumn___init__ "NoColumn.__init__" = true)
    (k_NoColumn___init__ : PySem.W.keepIn K (.ref f_NoColumn___init__) = true)
    (fn_NoColumn___init__ : PySem.W.isFn K (.ref f_NoColumn___init__) = true)
    (a_BadColumn___init__ : PySem.W.findIn K (.ref C_BadColumn) "__init__" = some (some (.ref f_BadColumn___init__)))
    (l_BadColumn___init__ : K.lookup f_BadColumn___init__ = some ⟨oc_BadColumn___init__, od_BadColumn___init__, .func (PySem.W.fnOf "__init__" "BadColumn.__init__" (defArgs s_BadColumn___init__) (defBody s_BadColumn___init__) (defScope s_BadColumn___init__) .none kV_BadColumn___init__ dc_BadColumn___init__ pm_BadColumn___init__ an_BadColumn___init__ cd_BadColumn___init__ ct_BadColumn___init__), sl_BadColumn___init__⟩)
    (c_BadColumn___init__ : PySem.W.codeIn K cd_BadColumn___init__ "BadColumn.__init__" = true)
    (k_BadColumn___init__ : PySem.W.keepIn K (.ref f_BadColumn___init__) = true)
    (fn_BadColumn___init__ : PySem.W.isFn K (.ref f_BadColumn___init__) = true)
    (a_BadBoundary___init__ : PySem.W.findIn K (.ref C_BadBoundary) "__init__" = some (some (.ref f_BadBoundary___init__)))
    (l_BadBoundary___init__ : K.lookup f_BadBoundary___init__ = some ⟨oc_BadBoundary___init__, od_BadBoundary___init__, .func (PySem.W.fnOf "__init__" "BadBoundary.__init__" (defArgs s_BadBoundary___init__) (defBody s_BadBoundary___init__) (defScope s_BadBoundary___init__) .none kV_BadBoundary___init__ dc_BadBoundary___init__ pm_BadBoundary___init__ an_BadBoundary___init__ cd_BadBoundary___init__ ct_BadBoundary___init__), sl_BadBoundary___init__⟩)
    (c_BadBoundary___init__ : PySem.W.codeIn K cd_BadBoundary___init__ "BadBoundary.__init__" = true)
    (k_BadBoundary___init__ : PySem.W.keepIn K (.ref f_BadBoundary___init__) = true)
    (fn_BadBoundary___init__ : PySem.W.isFn K (.ref f_BadBoundary___init__) = true)
    (a_BadCard___init__ : PySem.W.findIn K (.ref C_BadCard) "__init__" = some (some (.ref f_BadCard___init__)))
    (l_BadCard___init__ : K.lookup f_BadCard___init__ = some ⟨oc_BadCard___init__, od_BadCard___init__, .func (PySem.W.fnOf "__init__" "BadCard.__init__" (defArgs s_BadCard___init__) (defBody s_BadCard___init__) (defScope s_BadCard___init__) .none kV_BadCard___init__ dc_BadCard___init__ pm_BadCard___init__ an_BadCard___init__ cd_BadCard___init__ ct_BadCard___init__), sl_BadCard___init__⟩)
    (c_BadCard___init__ : PySem.W.codeIn K cd_BadCard___init__ "BadCard.__init__" = true)
    (k_BadCard___init__ : PySem.W.keepIn K (.ref f_BadCard___init__) = true)
    (fn_BadCard___init__ : PySem.W.isFn K (.ref f_BadCard___init__) = true)
    (a_BadPlace___init__ : PySem.W.findIn K (.ref C_BadPlace) "__init__" = some (some (.ref f_BadPlace___init__)))
    (l_BadPlace___init__ : K.lookup f_BadPlace___init__ = some ⟨oc_BadPlace___init__, od_BadPlace___init__, .func (PySem.W.fnOf "__init__" "BadPlace.__init__" (defArgs s_BadPlace___init__) (defBody s_BadPlace___init__) (defScope s_BadPlace___init__) .none kV_BadPlace___init__ dc_BadPlace___init__ pm_BadPlace___init__ an_BadPlace___init__ cd_BadPlace___init__ ct_BadPlace___init__), sl_BadPlace___init__⟩)
    (c_BadPlace___init__ : PySem.W.codeIn K cd_BadPlace___init__ "BadPlace.__init__" = true)
    (k_BadPlace___init__ : PySem.W.keepIn K (.ref f_BadPlace___init__) = true)
    (fn_BadPlace___init__ : PySem.W.isFn K (.ref f_BadPlace___init__) = true)
    (a_NoLayer___init__ : PySem.W.findIn K (.ref C_NoLayer) "__init__" = some (some (.ref f_NoLayer___init__)))
    (l_NoLayer___init__ : K.lookup f_NoLayer___init__ = some ⟨oc_NoLayer___init__, od_NoLayer___init__, .func (PySem.W.fnOf "__init__" "NoLayer.__init__" (defArgs s_NoLayer___init__) (defBody s_NoLayer___init__) (defScope s_NoLayer___init__) .none kV_NoLayer___init__ dc_NoLayer___init__ pm_NoLayer___init__ an_NoLayer___init__ cd_NoLayer___init__ ct_NoLayer___init__), sl_NoLayer___init__⟩)
    (c_NoLayer___init__ : PySem.W.codeIn K cd_NoLayer___init__ "NoLayer.__init__" = true)
    (k_NoLayer___init__ : PySem.W.keepIn K (.ref f_NoLayer___init__) = true)
    (fn_NoLayer___init__ : PySem.W.isFn K (.ref f_NoLayer___init__) = true)
    (a_Column___init__ : PySem.W.findIn K (.ref C_Column) "__init__" = some (some (.ref f_Column___init__)))
    (l_Column___init__ : K.lookup f_Column___init__ = some ⟨oc_Column___init__, od_Column___init__, .func (PySem.W.fnOf "__init__" "Column.__init__" (defArgs s_Column___init__) (defBody s_Column___init__) (defScope s_Column___init__) .none kV_Column___init__ dc_Column___init__ pm_Column___init__ an_Column___init__ cd_Column___init__ ct_Column___init__), sl_Column___init__⟩)
    (c_Column___init__ : PySem.W.codeIn K cd_Column___init__ "Column.__init__" = true)
    (k_Column___init__ : PySem.W.keepIn K (.ref f_Column___init__) = true)
    (fn_Column___init__ : PySem.W.isFn K (.ref f_Column___init__) = true)
    (a_Column_many : PySem.W.findIn K (.ref C_Column) "many" = some (some (.ref f_Column_many)))
    (l_Column_many : K.lookup f_Column_many = some ⟨oc_Column_many, od_Column_many, .func (PySem.W.fnOf "many" "Column.many" (defArgs s_Column_many) (defBody s_Column_many) (defScope s_Column_many) .none kV_Column_many dc_Column_many pm_Column_many an_Column_many cd_Column_many ct_Column_many), sl_Column_many⟩)
    (c_Column_many : PySem.W.codeIn K cd_Column_many "Column.many" = true)
    (k_Column_many : PySem.W.keepIn K (.ref f_Column_many) = true)
    (fn_Column_many : PySem.W.isFn K (.ref f_Column_many) = true)
    (a_Column_place : PySem.W.findIn K (.ref C_Column) "place" = some (some (.ref f_Column_place)))
    (l_Column_place : K.lookup f_Column_place = some ⟨oc_Column_place, od_Column_place, .func (PySem.W.fnOf "place" "Column.place" (defArgs s_Column_place) (defBody s_Column_place) (defScope s_Column_place) .none kV_Column_place dc_Column_place pm_Column_place an_Column_place cd_Column_place ct_Column_place), sl_Column_place⟩)
    (c_Column_place : PySem.W.codeIn K cd_Column_place "Column.place" = true)
    (k_Column_place : PySem.W.keepIn K (.ref f_Column_place) = true)
    (fn_Column_place : PySem.W.isFn K (.ref f_Column_place) = true)
    (a_Column_height : PySem.W.findIn K (.ref C_Column) "height" = some (some (.ref f_Column_height)))
    (l_Column_height : K.lookup f_Column_height = some ⟨oc_Column_height, od_Column_height, .func (PySem.W.fnOf "height" "Column.height" (defArgs s_Column_height) (defBody s_Column_height) (defScope s_Column_height) .none kV_Column_height dc_Column_height pm_Column_height an_Column_height cd_Column_height ct_Column_height), sl_Column_height⟩)
    (c_Column_height : PySem.W.codeIn K cd_Column_height "Column.height" = true)
    (k_Column_height : PySem.W.keepIn K (.ref f_Column_height) = true)
    (fn_Column_height : PySem.W.isFn K (.ref f_Column_height) = true)
    (a_Column_heights : PySem.W.findIn K (.ref C_Column) "heights" = some (some (.ref p_Column_heights)))
    (r_Column_heights : PySem.W.recIn K p_Column_heights "property" = some (.ref f_Column_heights :: re_Column_heights))
    (pg_Column_heights : PySem.W.specialIn K (.ref p_Column_heights) "__get__" = some (some (.builtin "property.__get__")))
    (pt_Column_heights : PySem.W.takesIn K (.ref p_Column_heights) = some true)
    (l_Column_heights : K.lookup f_Column_heights = some ⟨oc_Column_heights, od_Column_heights, .func (PySem.W.fnOf "heights" "Column.heights" (defArgs s_Column_heights) (defBody s_Column_heights) (defScope s_Column_heights) .none kV_Column_heights dc_Column_heights pm_Column_heights an_Column_heights cd_Column_heights ct_Column_heights), sl_Column_heights⟩)
    (c_Column_heights : PySem.W.codeIn K cd_Column_heights "Column.heights" = true)
    (k_Column_heights : PySem.W.keepIn K (.ref f_Column_heights) = true)
    (a_Column___eq__ : PySem.W.findIn K (.ref C_Column) "__eq__" = some (some (.ref f_Column___eq__)))
    (l_Column___eq__ : K.lookup f_Column___eq__ = some ⟨oc_Column___eq__, od_Column___eq__, .func (PySem.W.fnOf "__eq__" "Column.__eq__" (defArgs s_Column___eq__) (defBody s_Column___eq__) (defScope s_Column___eq__) .none kV_Column___eq__ dc_Column___eq__ pm_Column___eq__ an_Column___eq__ cd_Column___eq__ ct_Column___eq__), sl_Column___eq__⟩)
    (c_Column___eq__ : PySem.W.codeIn K cd_Column___eq__ "Column.__eq__" = true)
    (k_Column___eq__ : PySem.W.keepIn K (.ref f_Column___eq__) = true)
    (fn_Column___eq__ : PySem.W.isFn K (.ref f_Column___eq__) = true)
    (a_Column___str__ : PySem.W.findIn K (.ref C_Column) "__str__" = some (some (.ref f_Column___str__)))
    (l_Column___str__ : K.lookup f_Column___str__ = some ⟨oc_Column___str__, od_Column___str__, .func (PySem.W.fnOf "__str__" "Column.__str__" (defArgs s_Column___str__) (defBody s_Column___str__) (defScope s_Column___str__) .none kV_Column___str__ dc_Column___str__ pm_Column___str__ an_Column___str__ cd_Column___str__ ct_Column___str__), sl_Column___str__⟩)
    (c_Column___str__ : PySem.W.codeIn K cd_Column___str__ "Column.__str__" = true)
    (k_Column___str__ : PySem.W.keepIn K (.ref f_Column___str__) = true)
    (fn_Column___str__ : PySem.W.isFn K (.ref f_Column___str__) = true)
    (a_Column___len__ : PySem.W.findIn K (.ref C_Column) "__len__" = some (some (.ref f_Column___len__)))
    (l_Column___len__ : K.lookup f_Column___len__ = some ⟨oc_Column___len__, od_Column___len__, .func (PySem.W.fnOf "__len__" "Column.__len__" (defArgs s_Column___len__) (defBody s_Column___len__) (defScope s_Column___len__) .none kV_Column___len__ dc_Column___len__ pm_Column___len__ an_Column___len__ cd_Column___len__ ct_Column___len__), sl_Column___len__⟩)
    (c_Column___len__ : PySem.W.codeIn K cd_Column___len__ "Column.__len__" = true)
    (k_Column___len__ : PySem.W.keepIn K (.ref f_Column___len__) = true)
    (fn_Column___len__ : PySem.W.isFn K (.ref f_Column___len__) = true)
    (a_Column___iter__ : PySem.W.findIn K (.ref C_Column) "__iter__" = some (some (.ref f_Column___iter__)))
    (l_Column___iter__ : K.lookup f_Column___iter__ = some ⟨oc_Column___iter__, od_Column___iter__, .func (PySem.W.fnOf "__iter__" "Column.__iter__" (defArgs s_Column___iter__) (defBody s_Column___iter__) (defScope s_Column___iter__) .none kV_Column___iter__ dc_Column___iter__ pm_Column___iter__ an_Column___iter__ cd_Column___iter__ ct_Column___iter__), sl_Column___iter__⟩)
    (c_Column___iter__ : PySem.W.codeIn K cd_Column___iter__ "Column.__iter__" = true)
    (k_Column___iter__ : PySem.W.keepIn K (.ref f_Column___iter__) = true)
    (fn_Column___iter__ : PySem.W.isFn K (.ref f_Column___iter__) = true)
    (a_Card___init__ : PySem.W.findIn K (.ref C_Card) "__init__" = some (some (.ref f_Card___init__)))
    (l_Card___init__ : K.lookup f_Card___init__ = some ⟨oc_Card___init__, od_Card___init__, .func (PySem.W.fnOf "__init__" "Card.__init__" (defArgs s_Card___init__) (defBody s_Card___init__) (defScope s_Card___init__) (.ref dt_Card___init__) kV_Card___init__ dc_Card___init__ pm_Card___init__ an_Card___init__ cd_Card___init__ ct_Card___init__), sl_Card___init__⟩)
    (lt_Card___init__ : K.lookup dt_Card___init__ = some ⟨dc0_Card___init__, do_Card___init__, .seq #[(.ref de_Card___init__)] dn_Card___init__, ds_Card___init__⟩)
    (em_Card___init__ : K.lookup de_Card___init__ = some ⟨.type "tuple", deo_Card___init__, .seq #[] den_Card___init__, des_Card___init__⟩)
    (c_Card___init__ : PySem.W.codeIn K cd_Card___init__ "Card.__init__" = true)
    (k_Card___init__ : PySem.W.keepIn K (.ref f_Card___init__) = true)
    (fn_Card___init__ : PySem.W.isFn K (.ref f_Card___init__) = true)
    (a_Card_common : PySem.W.findIn K (.ref C_Card) "common" = some (some (.ref f_Card_common)))
    (l_Card_common : K.lookup f_Card_common = some ⟨oc_Card_common, od_Card_common, .func (PySem.W.fnOf "common" "Card.common" (defArgs s_Card_common) (defBody s_Card_common) (defScope s_Card_common) .none kV_Card_common dc_Card_common pm_Card_common an_Card_common cd_Card_common ct_Card_common), sl_Card_common⟩)
    (c_Card_common : PySem.W.codeIn K cd_Card_common "Card.common" = true)
    (k_Card_common : PySem.W.keepIn K (.ref f_Card_common) = true)
    (fn_Card_common : PySem.W.isFn K (.ref f_Card_common) = true)
    (a_Card___eq__ : PySem.W.findIn K (.ref C_Card) "__eq__" = some (some (.ref f_Card___eq__)))
    (l_Card___eq__ : K.lookup f_Card___eq__ = some ⟨oc_Card___eq__, od_Card___eq__, .func (PySem.W.fnOf "__eq__" "Card.__eq__" (defArgs s_Card___eq__) (defBody s_Card___eq__) (defScope s_Card___eq__) .none kV_Card___eq__ dc_Card___eq__ pm_Card___eq__ an_Card___eq__ cd_Card___eq__ ct_Card___eq__), sl_Card___eq__⟩)
    (c_Card___eq__ : PySem.W.codeIn K cd_Card___eq__ "Card.__eq__" = true)
    (k_Card___eq__ : PySem.W.keepIn K (.ref f_Card___eq__) = true)
    (fn_Card___eq__ : PySem.W.isFn K (.ref f_Card___eq__) = true)
    (a_Card___len__ : PySem.W.findIn K (.ref C_Card) "__len__" = some (some (.ref f_Card___len__)))
    (l_Card___len__ : K.lookup f_Card___len__ = some ⟨oc_Card___len__, od_Card___len__, .func (PySem.W.fnOf "__len__" "Card.__len__" (defArgs s_Card___len__) (defBody s_Card___len__) (defScope s_Card___len__) .none kV_Card___len__ dc_Card___len__ pm_Card___len__ an_Card___len__ cd_Card___len__ ct_Card___len__), sl_Card___len__⟩)
    (c_Card___len__ : PySem.W.codeIn K cd_Card___len__ "Card.__len__" = true)
    (k_Card___len__ : PySem.W.keepIn K (.ref f_Card___len__) = true)
    (fn_Card___len__ : PySem.W.isFn K (.ref f_Card___len__) = true)
    (a_Card___iter__ : PySem.W.findIn K (.ref C_Card) "__iter__" = some (some (.ref f_Card___iter__)))
    (l_Card___iter__ : K.lookup f_Card___iter__ = some ⟨oc_Card___iter__, od_Card___iter__, .func (PySem.W.fnOf "__iter__" "Card.__iter__" (defArgs s_Card___iter__) (defBody s_Card___iter__) (defScope s_Card___iter__) .none kV_Card___iter__ dc_Card___iter__ pm_Card___iter__ an_Card___iter__ cd_Card___iter__ ct_Card___iter__), sl_Card___iter__⟩)
    (c_Card___iter__ : PySem.W.codeIn K cd_Card___iter__ "Card.__iter__" = true)
    (k_Card___iter__ : PySem.W.keepIn K (.ref f_Card___iter__) = true)
    (fn_Card___iter__ : PySem.W.isFn K (.ref f_Card___iter__) = true)
    (ec_CardError : PySem.W.subIn K (.ref C_CardError) (.type "BaseException") = some true)
    (ty_CardError : PySem.W.typeIn K (.ref C_CardError) = some (.type "type"))
    (ic_CardError : PySem.W.isClsIn K C_CardError = true)
    (ss_CardError : PySem.W.subIn K (.ref C_CardError) (.ref C_CardError) = some true)
    (xl_NoColumn : K.lookup C_NoColumn = some (excClassObj nm_NoColumn q_NoColumn C_NoColumn N_NoColumn bs_NoColumn bm_NoColumn true sn_NoColumn sb_NoColumn ab_NoColumn co_NoColumn dd_NoColumn m0_NoColumn m1_NoColumn m2_NoColumn m3_NoColumn m5_NoColumn "ValueError.__new__"))
    (rv_NoColumn : PySem.HandSPX.refsVE bm_NoColumn = true)
    (sa_NoColumn : PySem.W.findIn K (.ref C_NoColumn) "__setattr__" = some (some (.builtin "object.__setattr__")))
    (ga_NoColumn : PySem.W.findIn K (.ref C_NoColumn) "__getattribute__" = some (some (.builtin "BaseException.__getattribute__")))
    (gg_NoColumn : PySem.W.findIn K (.ref C_NoColumn) "__getattr__" = some none)
    (kc_NoColumn : PySem.W.keepIn K (.ref C_NoColumn) = true)
    (hd_NoColumn : PySem.W.hasDictIn K C_NoColumn = true)
    (ti_NoColumn : PySem.W.typeIn K (.ref f_NoColumn___init__) = some (.type "function"))
    (ca_NoColumn : PySem.W.findIn K (.ref C_NoColumn) "__class__" = some (some (.builtin "object.__class__")))
    (mo_NoColumn : PySem.W.mroIn K C_NoColumn (.type "object") = some true)
    (is_NoColumn_CardError : PySem.W.kitOne K (.ref C_NoColumn) (.ref C_CardError) = some true)
    (ec_NoColumn : PySem.W.subIn K (.ref C_NoColumn) (.type "BaseException") = some true)
    (ty_NoColumn : PySem.W.typeIn K (.ref C_NoColumn) = some (.type "type"))
    (ic_NoColumn : PySem.W.isClsIn K C_NoColumn = true)
    (ss_NoColumn : PySem.W.subIn K (.ref C_NoColumn) (.ref C_NoColumn) = some true)
    (n_NoColumn_column : PySem.W.findIn K (.ref C_NoColumn) "column" = some none)
    (eq_NoColumn_NoColumn : PySem.W.subIn K (.ref C_NoColumn) (.ref C_NoColumn) = some true)
    (eq_NoColumn_NoLayer : PySem.W.subIn K (.ref C_NoColumn) (.ref C_NoLayer) = some false)
    (up_NoColumn_CardError : PySem.W.subIn K (.ref C_NoColumn) (.ref C_CardError) = some true)
    (xl_BadColumn : K.lookup C_BadColumn = some (excClassObj nm_BadColumn q_BadColumn C_BadColumn N_BadColumn bs_BadColumn bm_BadColumn true sn_BadColumn sb_BadColumn ab_BadColumn co_BadColumn dd_BadColumn m0_BadColumn m1_BadColumn m2_BadColumn m3_BadColumn m5_BadColumn "ValueError.__new__"))
    (rv_BadColumn : PySem.HandSPX.refsVE bm_BadColumn = true)
    (sa_BadColumn : PySem.W.findIn K (.ref C_BadColumn) "__setattr__" = some (some (.builtin "object.__setattr__")))
    (ga_BadColumn : PySem.W.findIn K (.ref C_BadColumn) "__getattribute__" = some (some (.builtin "BaseException.__getattribute__")))
    (gg_BadColumn : PySem.W.findIn K (.ref C_BadColumn) "__getattr__" = some none)
    (kc_BadColumn : PySem.W.keepIn K (.ref C_BadColumn) = true)
    (hd_BadColumn : PySem.W.hasDictIn K C_BadColumn = true)
    (ti_BadColumn : PySem.W.typeIn K (.ref f_BadColumn___init__) = some (.type "function"))
    (ca_BadColumn : PySem.W.findIn K (.ref C_BadColumn) "__class__" = some (some (.builtin "object.__class__")))
    (mo_BadColumn : PySem.W.mroIn K C_BadColumn (.type "object") = some true)
    (is_BadColumn_CardError : PySem.W.kitOne K (.ref C_BadColumn) (.ref C_CardError) = some true)
    (ec_BadColumn : PySem.W.subIn K (.ref C_BadColumn) (.type "BaseException") = some true)
    (ty_BadColumn : PySem.W.typeIn K (.ref C_BadColumn) = some (.type "type"))
    (ic_BadColumn : PySem.W.isClsIn K C_BadColumn = true)
    (ss_BadColumn : PySem.W.subIn K (.ref C_BadColumn) (.ref C_BadColumn) = some true)
    (n_BadColumn_what : PySem.W.findIn K (.ref C_BadColumn) "what" = some none)
    (eq_BadColumn_NoColumn : PySem.W.subIn K (.ref C_BadColumn) (.ref C_NoColumn) = some false)
    (eq_BadColumn_NoLayer : PySem.W.subIn K (.ref C_BadColumn) (.ref C_NoLayer) = some false)
    (up_BadColumn_CardError : PySem.W.subIn K (.ref C_BadColumn) (.ref C_CardError) = some true)
    (xl_BadBoundary : K.lookup C_BadBoundary = some (excClassObj nm_BadBoundary q_BadBoundary C_BadBoundary N_BadBoundary bs_BadBoundary bm_BadBoundary true sn_BadBoundary sb_BadBoundary ab_BadBoundary co_BadBoundary dd_BadBoundary m0_BadBoundary m1_BadBoundary m2_BadBoundary m3_BadBoundary m5_BadBoundary "ValueError.__new__"))
    (rv_BadBoundary : PySem.HandSPX.refsVE bm_BadBoundary = true)
    (sa_BadBoundary : PySem.W.findIn K (.ref C_BadBoundary) "__setattr__" = some (some (.builtin "object.__setattr__")))
    (ga_BadBoundary : PySem.W.findIn K (.ref C_BadBoundary) "__getattribute__" = some (some (.builtin "BaseException.__getattribute__")))
    (gg_BadBoundary : PySem.W.findIn K (.ref C_BadBoundary) "__getattr__" = some none)
    (kc_BadBoundary : PySem.W.keepIn K (.ref C_BadBoundary) = true)
    (hd_BadBoundary : PySem.W.hasDictIn K C_BadBoundary = true)
    (ti_BadBoundary : PySem.W.typeIn K (.ref f_BadBoundary___init__) = some (.type "function"))
    (ca_BadBoundary : PySem.W.findIn K (.ref C_BadBoundary) "__class__" = some (some (.builtin "object.__class__")))
    (mo_BadBoundary : PySem.W.mroIn K C_BadBoundary (.type "object") = some true)
    (is_BadBoundary_CardError : PySem.W.kitOne K (.ref C_BadBoundary) (.ref C_CardError) = some true)
    (ec_BadBoundary : PySem.W.subIn K (.ref C_BadBoundary) (.type "BaseException") = some true)
    (ty_BadBoundary : PySem.W.typeIn K (.ref C_BadBoundary) = some (.type "type"))
    (ic_BadBoundary : PySem.W.isClsIn K C_BadBoundary = true)
    (ss_BadBoundary : PySem.W.subIn K (.ref C_BadBoundary) (.ref C_BadBoundary) = some true)
    (n_BadBoundary_boundary : PySem.W.findIn K (.ref C_BadBoundary) "boundary" = some none)
    (eq_BadBoundary_NoColumn : PySem.W.subIn K (.ref C_BadBoundary) (.ref C_NoColumn) = some false)
    (eq_BadBoundary_NoLayer : PySem.W.subIn K (.ref C_BadBoundary) (.ref C_NoLayer) = some false)
    (up_BadBoundary_CardError : PySem.W.subIn K (.ref C_BadBoundary) (.ref C_CardError) = some true)
    (xl_BadCard : K.lookup C_BadCard = some (excClassObj nm_BadCard q_BadCard C_BadCard N_BadCard bs_BadCard bm_BadCard true sn_BadCard sb_BadCard ab_BadCard co_BadCard dd_BadCard m0_BadCard m1_BadCard m2_BadCard m3_BadCard m5_BadCard "ValueError.__new__"))
    (rv_BadCard : PySem.HandSPX.refsVE bm_BadCard = true)
    (sa_BadCard : PySem.W.findIn K (.ref C_BadCard) "__setattr__" = some (some (.builtin "object.__setattr__")))
    (ga_BadCard : PySem.W.findIn K (.ref C_BadCard) "__getattribute__" = some (some (.builtin "BaseException.__getattribute__")))
    (gg_BadCard : PySem.W.findIn K (.ref C_BadCard) "__getattr__" = some none)
    (kc_BadCard : PySem.W.keepIn K (.ref C_BadCard) = true)
    (hd_BadCard : PySem.W.hasDictIn K C_BadCard = true)
    (ti_BadCard : PySem.W.typeIn K (.ref f_BadCard___init__) = some (.type "function"))
    (ca_BadCard : PySem.W.findIn K (.ref C_BadCard) "__class__" = some (some (.builtin "object.__class__")))
    (mo_BadCard : PySem.W.mroIn K C_BadCard (.type "object") = some true)
    (is_BadCard_CardError : PySem.W.kitOne K (.ref C_BadCard) (.ref C_CardError) = some true)
    (ec_BadCard : PySem.W.subIn K (.ref C_BadCard) (.type "BaseException") = some true)
    (ty_BadCard : PySem.W.typeIn K (.ref C_BadCard) = some (.type "type"))
    (ic_BadCard : PySem.W.isClsIn K C_BadCard = true)
    (ss_BadCard : PySem.W.subIn K (.ref C_BadCard) (.ref C_BadCard) = some true)
    (n_BadCard_index : PySem.W.findIn K (.ref C_BadCard) "index" = some none)
    (n_BadCard_what : PySem.W.findIn K (.ref C_BadCard) "what" = some none)
    (eq_BadCard_NoColumn : PySem.W.subIn K (.ref C_BadCard) (.ref C_NoColumn) = some false)
    (eq_BadCard_NoLayer : PySem.W.subIn K (.ref C_BadCard) (.ref C_NoLayer) = some false)
    (up_BadCard_CardError : PySem.W.subIn K (.ref C_BadCard) (.ref C_CardError) = some true)
    (xl_BadPlace : K.lookup C_BadPlace = some (excClassObj nm_BadPlace q_BadPlace C_BadPlace N_BadPlace bs_BadPlace bm_BadPlace true sn_BadPlace sb_BadPlace ab_BadPlace co_BadPlace dd_BadPlace m0_BadPlace m1_BadPlace m2_BadPlace m3_BadPlace m5_BadPlace "ValueError.__new__"))
    (rv_BadPlace : PySem.HandSPX.refsVE bm_BadPlace = true)
    (sa_BadPlace : PySem.W.findIn K (.ref C_BadPlace) "__setattr__" = some (some (.builtin "object.__setattr__")))
    (ga_BadPlace : PySem.W.findIn K (.ref C_BadPlace) "__getattribute__" = some (some (.builtin "BaseException.__getattribute__")))
    (gg_BadPlace : PySem.W.findIn K (.ref C_BadPlace) "__getattr__" = some none)
    (kc_BadPlace : PySem.W.keepIn K (.ref C_BadPlace) = true)
    (hd_BadPlace : PySem.W.hasDictIn K C_BadPlace = true)
    (ti_BadPlace : PySem.W.typeIn K (.ref f_BadPlace___init__) = some (.type "function"))
    (ca_BadPlace : PySem.W.findIn K (.ref C_BadPlace) "__class__" = some (some (.builtin "object.__class__")))
    (mo_BadPlace : PySem.W.mroIn K C_BadPlace (.type "object") = some true)
    (is_BadPlace_CardError : PySem.W.kitOne K (.ref C_BadPlace) (.ref C_CardError) = some true)
    (ec_BadPlace : PySem.W.subIn K (.ref C_BadPlace) (.type "BaseException") = some true)
    (ty_BadPlace : PySem.W.typeIn K (.ref C_BadPlace) = some (.type "type"))
    (ic_BadPlace : PySem.W.isClsIn K C_BadPlace = true)
    (ss_BadPlace : PySem.W.subIn K (.ref C_BadPlace) (.ref C_BadPlace) = some true)
    (n_BadPlace_column : PySem.W.findIn K (.ref C_BadPlace) "column" = some none)
    (n_BadPlace_step : PySem.W.findIn K (.ref C_BadPlace) "step" = some none)
    (eq_BadPlace_NoColumn : PySem.W.subIn K (.ref C_BadPlace) (.ref C_NoColumn) = some false)
    (eq_BadPlace_NoLayer : PySem.W.subIn K (.ref C_BadPlace) (.ref C_NoLayer) = some false)
    (up_BadPlace_CardError : PySem.W.subIn K (.ref C_BadPlace) (.ref C_CardError) = some true)
    (xl_NoLayer : K.lookup C_NoLayer = some (excClassObj nm_NoLayer q_NoLayer C_NoLayer N_NoLayer bs_NoLayer bm_NoLayer true sn_NoLayer sb_NoLayer ab_NoLayer co_NoLayer dd_NoLayer m0_NoLayer m1_NoLayer m2_NoLayer m3_NoLayer m5_NoLayer "ValueError.__new__"))
    (rv_NoLayer : PySem.HandSPX.refsVE bm_NoLayer = true)
    (sa_NoLayer : PySem.W.findIn K (.ref C_NoLayer) "__setattr__" = some (some (.builtin "object.__setattr__")))
    (ga_NoLayer : PySem.W.findIn K (.ref C_NoLayer) "__getattribute__" = some (some (.builtin "BaseException.__getattribute__")))
    (gg_NoLayer : PySem.W.findIn K (.ref C_NoLayer) "__getattr__" = some none)
    (kc_NoLayer : PySem.W.keepIn K (.ref C_NoLayer) = true)
    (hd_NoLayer : PySem.W.hasDictIn K C_NoLayer = true)
    (ti_NoLayer : PySem.W.typeIn K (.ref f_NoLayer___init__) = some (.type "function"))
    (ca_NoLayer : PySem.W.findIn K (.ref C_NoLayer) "__class__" = some (some (.builtin "object.__class__")))
    (mo_NoLayer : PySem.W.mroIn K C_NoLayer (.type "object") = some true)
    (is_NoLayer_CardError : PySem.W.kitOne K (.ref C_NoLayer) (.ref C_CardError) = some true)
    (ec_NoLayer : PySem.W.subIn K (.ref C_NoLayer) (.type "BaseException") = some true)
    (ty_NoLayer : PySem.W.typeIn K (.ref C_NoLayer) = some (.type "type"))
    (ic_NoLayer : PySem.W.isClsIn K C_NoLayer = true)
    (ss_NoLayer : PySem.W.subIn K (.ref C_NoLayer) (.ref C_NoLayer) = some true)
    (n_NoLayer_layer : PySem.W.findIn K (.ref C_NoLayer) "layer" = some none)
    (eq_NoLayer_NoColumn : PySem.W.subIn K (.ref C_NoLayer) (.ref C_NoColumn) = some false)
    (eq_NoLayer_NoLayer : PySem.W.subIn K (.ref C_NoLayer) (.ref C_NoLayer) = some true)
    (up_NoLayer_CardError : PySem.W.subIn K (.ref C_NoLayer) (.ref C_CardError) = some true)
    (pg_Column : PySem.W.plainGet K C_Column Str.empty = true)
    (hd_Column : PySem.W.hasDictIn K C_Column = true)
    (po_Column : PySem.W.plainOver K C_Column = true)
    (sa_Column : PySem.W.findIn K (.ref C_Column) "__setattr__" = some (some (.builtin "object.__setattr__")))
    (i1_Column : PySem.W.findIn K (.ref C_Column) "__class__" = some (some (.builtin "object.__class__")))
    (i4_Column : PySem.W.mroIn K C_Column (.type "object") = some true)
    (ic_Column : PySem.W.isClsIn K C_Column = true)
    (ty_Column : PySem.W.typeIn K (.ref C_Column) = some (.type "type"))
    (it_str_Column : PySem.W.subIn K (.type "str") (.ref C_Column) = some false)
    (it_int_Column : PySem.W.subIn K (.type "int") (.ref C_Column) = some false)
    (it_bool_Column : PySem.W.subIn K (.type "bool") (.ref C_Column) = some false)
    (it_NoneType_Column : PySem.W.subIn K (.type "NoneType") (.ref C_Column) = some false)
    (it_list_Column : PySem.W.subIn K (.type "list") (.ref C_Column) = some false)
    (it_tuple_Column : PySem.W.subIn K (.type "tuple") (.ref C_Column) = some false)
    (it_dict_Column : PySem.W.subIn K (.type "dict") (.ref C_Column) = some false)
    (ti_str_Column : PySem.W.subIn K (.ref C_Column) (.type "str") = some false)
    (ti_int_Column : PySem.W.subIn K (.ref C_Column) (.type "int") = some false)
    (ti_bool_Column : PySem.W.subIn K (.ref C_Column) (.type "bool") = some false)
    (ti_list_Column : PySem.W.subIn K (.ref C_Column) (.type "list") = some false)
    (ti_tuple_Column : PySem.W.subIn K (.ref C_Column) (.type "tuple") = some false)
    (kk_Column_Card : PySem.W.kitOne K (.ref C_Column) (.ref C_Card) = some false)
    (sb_Column_Card : PySem.W.subIn K (.ref C_Column) (.ref C_Card) = some false)
    (sub_Column : PySem.W.subIn K (.type "str") (.ref C_Column) = some false)
    (ne_Column : PySem.W.findIn K (.ref C_Column) "__ne__" = some (some (.builtin "object.__ne__")))
    (mk_Column : PySem.W.makesIn K C_Column = true)
    (kc_Column : PySem.W.keepIn K (.ref C_Column) = true)
    (n_Column_word : PySem.W.findIn K (.ref C_Column) "word" = some none)
    (n_Column_size : PySem.W.findIn K (.ref C_Column) "size" = some none)
    (pg_Card : PySem.W.plainGet K C_Card Str.empty = true)
    (hd_Card : PySem.W.hasDictIn K C_Card = true)
    (po_Card : PySem.W.plainOver K C_Card = true)
    (sa_Card : PySem.W.findIn K (.ref C_Card) "__setattr__" = some (some (.builtin "object.__setattr__")))
    (i1_Card : PySem.W.findIn K (.ref C_Card) "__class__" = some (some (.builtin "object.__class__")))
    (i4_Card : PySem.W.mroIn K C_Card (.type "object") = some true)
    (ic_Card : PySem.W.isClsIn K C_Card = true)
    (ty_Card : PySem.W.typeIn K (.ref C_Card) = some (.type "type"))
    (it_str_Card : PySem.W.subIn K (.type "str") (.ref C_Card) = some false)
    (it_int_Card : PySem.W.subIn K (.type "int") (.ref C_Card) = some false)
    (it_bool_Card : PySem.W.subIn K (.type "bool") (.ref C_Card) = some false)
    (it_NoneType_Card : PySem.W.subIn K (.type "NoneType") (.ref C_Card) = some false)
    (it_list_Card : PySem.W.subIn K (.type "list") (.ref C_Card) = some false)
    (it_tuple_Card : PySem.W.subIn K (.type "tuple") (.ref C_Card) = some false)
    (it_dict_Card : PySem.W.subIn K (.type "dict") (.ref C_Card) = some false)
    (ti_str_Card : PySem.W.subIn K (.ref C_Card) (.type "str") = some false)
    (ti_int_Card : PySem.W.subIn K (.ref C_Card) (.type "int") = some false)
    (ti_bool_Card : PySem.W.subIn K (.ref C_Card) (.type "bool") = some false)
    (ti_list_Card : PySem.W.subIn K (.ref C_Card) (.type "list") = some false)
    (ti_tuple_Card : PySem.W.subIn K (.ref C_Card) (.type "tuple") = some false)
    (kk_Card_Column : PySem.W.kitOne K (.ref C_Card) (.ref C_Column) = some false)
    (sb_Card_Column : PySem.W.subIn K (.ref C_Card) (.ref C_Column) = some false)
    (sub_Card : PySem.W.subIn K (.type "str") (.ref C_Card) = some false)
    (ne_Card : PySem.W.findIn K (.ref C_Card) "__ne__" = some (some (.builtin "object.__ne__")))
    (mk_Card : PySem.W.makesIn K C_Card = true)
    (kc_Card : PySem.W.keepIn K (.ref C_Card) = true)
    (n_Card_columns : PySem.W.findIn K (.ref C_Card) "columns" = some none)
    (n_Card_size : PySem.W.findIn K (.ref C_Card) "size" = some none)
    (n_Card_width : PySem.W.findIn K (.ref C_Card) "width" = some none)
    (n_Card_words : PySem.W.findIn K (.ref C_Card) "words" = some none)
    (n_Card_marks : PySem.W.findIn K (.ref C_Card) "marks" = some none)
    (kc_MOST_SIZE : PySem.W.nsIn K mainGlobals "MOST_SIZE" = some (some (.int 6 tk_MOST_SIZE)))
    (kc_MOST_WIDTH : PySem.W.nsIn K mainGlobals "MOST_WIDTH" = some (some (.int 12 tk_MOST_WIDTH)))
    (i2 : PySem.W.specialIn K (.builtin "object.__class__") "__get__" = some (some (.builtin "getset_descriptor.__get__")))
    (i3 : PySem.W.takesIn K (.builtin "object.__class__") = some true)
    (im_pairwise : PySem.W.nsIn K mainGlobals "pairwise" = some (some (.type "itertools.pairwise")))
    (z_ValueError : PySem.W.nsIn K mainGlobals "ValueError" = some none)
    (z_abs : PySem.W.nsIn K mainGlobals "abs" = some none)
    (z_all : PySem.W.nsIn K mainGlobals "all" = some none)
    (z_bool : PySem.W.nsIn K mainGlobals "bool" = some none)
    (z_classmethod : PySem.W.nsIn K mainGlobals "classmethod" = some none)
    (z_enumerate : PySem.W.nsIn K mainGlobals "enumerate" = some none)
    (z_int : PySem.W.nsIn K mainGlobals "int" = some none)
    (z_isinstance : PySem.W.nsIn K mainGlobals "isinstance" = some none)
    (z_iter : PySem.W.nsIn K mainGlobals "iter" = some none)
    (z_len : PySem.W.nsIn K mainGlobals "len" = some none)
    (z_list : PySem.W.nsIn K mainGlobals "list" = some none)
    (z_max : PySem.W.nsIn K mainGlobals "max" = some none)
    (z_property : PySem.W.nsIn K mainGlobals "property" = some none)
    (z_range : PySem.W.nsIn K mainGlobals "range" = some none)
    (z_sorted : PySem.W.nsIn K mainGlobals "sorted" = some none)
    (z_staticmethod : PySem.W.nsIn K mainGlobals "staticmethod" = some none)
    (z_str : PySem.W.nsIn K mainGlobals "str" = some none)
    (z_tuple : PySem.W.nsIn K mainGlobals "tuple" = some none)
    (z_zip : PySem.W.nsIn K mainGlobals "zip" = some none)
    : ∃ fd : FuncData, (∀ (s : Shared) (u : Value), BindsTo s fd ⟨[u], []⟩ [("_law_script", u)]) ∧ ∀ base : Heap, K.In base → base.Ns mainGlobals mg → FnOk P w K mg base CX0 8 fa fd ["_law_script"] (spLaw K) := by
  have e : f_law = fa := by
    have e := hfa.symm.trans (PySem.W.mg_of X G a_law)
    cases e
    rfl
  subst e
  have F_is_number := fun_mk (st := s_is_number) l_is_number c_is_number k_is_number
  have b_is_number := F_is_number.binds (ps := P_is_number) fun _ _ _ _ _ _ us hl => match us, hl with | [_], _ => rfl
  have F_is_whole := fun_mk (st := s_is_whole) l_is_whole c_is_whole k_is_whole
  have b_is_whole := F_is_whole.binds (ps := P_is_whole) fun _ _ _ _ _ _ us hl => match us, hl with | [_, _, _], _ => rfl
  have F_is_sequence := fun_mk (st := s_is_sequence) l_is_sequence c_is_sequence k_is_sequence
  have b_is_sequence := F_is_sequence.binds (ps := P_is_sequence) fun _ _ _ _ _ _ us hl => match us, hl with | [_], _ => rfl
  have F_word_fault := fun_mk (st := s_word_fault) l_word_fault c_word_fault k_word_fault
  have b_word_fault := F_word_fault.binds (ps := P_word_fault) fun _ _ _ _ _ _ us hl => match us, hl with | [_], _ => rfl
  have F_common_steps := fun_mk (st := s_common_steps) l_common_steps c_common_steps k_common_steps
  have b_common_steps := F_common_steps.binds (ps := P_common_steps) fun _ _ _ _ _ _ us hl => match us, hl with | [_, _], _ => rfl
  have F_check_columns := fun_mk (st := s_check_columns) l_check_columns c_check_columns k_check_columns
  have b_check_columns := F_check_columns.binds (ps := P_check_columns) fun _ _ _ _ _ _ us hl => match us, hl with | [_], _ => rfl
  have F_mark_of := fun_mk (st := s_mark_of) l_mark_of c_mark_of k_mark_of
  have b_mark_of := F_mark_of.binds (ps := P_mark_of) fun _ _ _ _ _ _ us hl => match us, hl with | [_, _, _], _ => rfl
  have F_new_marks := fun_mk (st := s_new_marks) l_new_marks c_new_marks k_new_marks
  have b_new_marks := F_new_marks.binds (ps := P_new_marks) fun _ _ _ _ _ _ us hl => match us, hl with | [_, _, _, _], _ => rfl
  have F_check_column := fun_mk (st := s_check_column) l_check_column c_check_column k_check_column
  have b_check_column := F_check_column.binds (ps := P_check_column) fun _ _ _ _ _ _ us hl => match us, hl with | [_, _], _ => rfl
  have F_check_layer := fun_mk (st := s_check_layer) l_check_layer c_check_layer k_check_layer
  have b_check_layer := F_check_layer.binds (ps := P_check_layer) fun _ _ _ _ _ _ us hl => match us, hl with | [_, _, _], _ => rfl
  have F_step_layers := fun_mk (st := s_step_layers) l_step_layers c_step_layers k_step_layers
  have b_step_layers := F_step_layers.binds (ps := P_step_layers) fun _ _ _ _ _ _ us hl => match us, hl with | [_], _ => rfl
  have F_layer_of := fun_mk (st := s_layer_of) l_layer_of c_layer_of k_layer_of
  have b_layer_of := F_layer_of.binds (ps := P_layer_of) fun _ _ _ _ _ _ us hl => match us, hl with | [_, _, _], _ => rfl
  have F_layer_steps := fun_mk (st := s_layer_steps) l_layer_steps c_layer_steps k_layer_steps
  have b_layer_steps := F_layer_steps.binds (ps := P_layer_steps) fun _ _ _ _ _ _ us hl => match us, hl with | [_, _, _], _ => rfl
  have F_middle_of := fun_mk (st := s_middle_of) l_middle_of c_middle_of k_middle_of
  have b_middle_of := F_middle_of.binds (ps := P_middle_of) fun _ _ _ _ _ _ us hl => match us, hl with | [_, _], _ => rfl
  have F_middles := fun_mk (st := s_middles) l_middles c_middles k_middles
  have b_middles := F_middles.binds (ps := P_middles) fun _ _ _ _ _ _ us hl => match us, hl with | [_, _, _], _ => rfl
  have F_thickness := fun_mk (st := s_thickness) l_thickness c_thickness k_thickness
  have b_thickness := F_thickness.binds (ps := P_thickness) fun _ _ _ _ _ _ us hl => match us, hl with | [_, _, _], _ => rfl
  have F_touching := fun_mk (st := s_touching) l_touching c_touching k_touching
  have b_touching := F_touching.binds (ps := P_touching) fun _ _ _ _ _ _ us hl => match us, hl with | [_, _, _], _ => rfl
  have F_l_mix := fun_mk (st := s_l_mix) l_l_mix c_l_mix k_l_mix
  have b_l_mix := F_l_mix.binds (ps := P_l_mix) fun _ _ _ _ _ _ us hl => match us, hl with | [_, _], _ => rfl
  have F_l_hand := fun_mk (st := s_l_hand) l_l_hand c_l_hand k_l_hand
  have b_l_hand := F_l_hand.binds (ps := P_l_hand) fun _ _ _ _ _ _ us hl => match us, hl with | [_], _ => rfl
  have F_l_draw := fun_mk (st := s_l_draw) l_l_draw c_l_draw k_l_draw
  have b_l_draw := F_l_draw.binds (ps := P_l_draw) fun _ _ _ _ _ _ us hl => match us, hl with | [_, _], _ => rfl
  have F_l_word := fun_mk (st := s_l_word) l_l_word c_l_word k_l_word
  have b_l_word := F_l_word.binds (ps := P_l_word) fun _ _ _ _ _ _ us hl => match us, hl with | [_, _], _ => rfl
  have F_l_near := fun_mk (st := s_l_near) l_l_near c_l_near k_l_near
  have b_l_near := F_l_near.binds (ps := P_l_near) fun _ _ _ _ _ _ us hl => match us, hl with | [_, _], _ => rfl
  have F_l_words := fun_mk (st := s_l_words) l_l_words c_l_words k_l_words
  have b_l_words := F_l_words.binds (ps := P_l_words) fun _ _ _ _ _ _ us hl => match us, hl with | [_, _, _], _ => rfl
  have F_l_heights := fun_mk (st := s_l_heights) l_l_heights c_l_heights k_l_heights
  have b_l_heights := F_l_heights.binds (ps := P_l_heights) fun _ _ _ _ _ _ us hl => match us, hl with | [_], _ => rfl
  have F_l_common := fun_mk (st := s_l_common) l_l_common c_l_common k_l_common
  have b_l_common := F_l_common.binds (ps := P_l_common) fun _ _ _ _ _ _ us hl => match us, hl with | [_, _], _ => rfl
  have F_l_pick := fun_mk (st := s_l_pick) l_l_pick c_l_pick k_l_pick
  have b_l_pick := F_l_pick.binds (ps := P_l_pick) fun _ _ _ _ _ _ us hl => match us, hl with | [_, _], _ => rfl
  have F_l_sizes := fun_mk (st := s_l_sizes) l_l_sizes c_l_sizes k_l_sizes
  have b_l_sizes := F_l_sizes.binds (ps := P_l_sizes) fun _ _ _ _ _ _ us hl => match us, hl with | [_], _ => rfl
  have F_l_slits := fun_mk (st := s_l_slits) l_l_slits c_l_slits k_l_slits
  have b_l_slits := F_l_slits.binds (ps := P_l_slits) fun _ _ _ _ _ _ us hl => match us, hl with | [_, _], _ => rfl
  have F_l_card := fun_mk (st := s_l_card) l_l_card c_l_card k_l_card
  have b_l_card := F_l_card.binds (ps := P_l_card) fun _ _ _ _ _ _ us hl => match us, hl with | [_, _], _ => rfl
  have F_l_number := fun_mk (st := s_l_number) l_l_number c_l_number k_l_number
  have b_l_number := F_l_number.binds (ps := P_l_number) fun _ _ _ _ _ _ us hl => match us, hl with | [_, _], _ => rfl
  have F_l_rows := fun_mk (st := s_l_rows) l_l_rows c_l_rows k_l_rows
  have b_l_rows := F_l_rows.binds (ps := P_l_rows) fun _ _ _ _ _ _ us hl => match us, hl with | [_, _], _ => rfl
  have F_l_place := fun_mk (st := s_l_place) l_l_place c_l_place k_l_place
  have b_l_place := F_l_place.binds (ps := P_l_place) fun _ _ _ _ _ _ us hl => match us, hl with | [_, _], _ => rfl
  have F_l_steps := fun_mk (st := s_l_steps) l_l_steps c_l_steps k_l_steps
  have b_l_steps := F_l_steps.binds (ps := P_l_steps) fun _ _ _ _ _ _ us hl => match us, hl with | [_, _], _ => rfl
  have F_l_fault := fun_mk (st := s_l_fault) l_l_fault c_l_fault k_l_fault
  have b_l_fault := F_l_fault.binds (ps := P_l_fault) fun _ _ _ _ _ _ us hl => match us, hl with | [_, _, _, _], _ => rfl
  have F_l_middles := fun_mk (st := s_l_middles) l_l_middles c_l_middles k_l_middles
  have b_l_middles := F_l_middles.binds (ps := P_l_middles) fun _ _ _ _ _ _ us hl => match us, hl with | [_, _], _ => rfl
  have F_l_touching := fun_mk (st := s_l_touching) l_l_touching c_l_touching k_l_touching
  have b_l_touching := F_l_touching.binds (ps := P_l_touching) fun _ _ _ _ _ _ us hl => match us, hl with | [_, _], _ => rfl
  have F_l_layer_right := fun_mk (st := s_l_layer_right) l_l_layer_right c_l_layer_right k_l_layer_right
  have b_l_layer_right := F_l_layer_right.binds (ps := P_l_layer_right) fun _ _ _ _ _ _ us hl => match us, hl with | [_, _, _, _], _ => rfl
  have F_law := fun_mk (st := s_law) l_law c_law k_law
  have b_law := F_law.binds (ps := P_law) fun _ _ _ _ _ _ us hl => match us, hl with | [_], _ => rfl
  have F_NoColumn___init__ := fun_mk (st := s_NoColumn___init__) l_NoColumn___init__ c_NoColumn___init__ k_NoColumn___init__
  have b_NoColumn___init__ := F_NoColumn___init__.binds (ps := P_NoColumn___init__) fun _ _ _ _ _ _ us hl => match us, hl with | [_, _], _ => rfl
  have F_BadColumn___init__ := fun_mk (st := s_BadColumn___init__) l_BadColumn___init__ c_BadColumn___init__ k_BadColumn___init__
  have b_BadColumn___init__ := F_BadColumn___init__.binds (ps := P_BadColumn___init__) fun _ _ _ _ _ _ us hl => match us, hl with | [_, _], _ => rfl
  have F_BadBoundary___init__ := fun_mk (st := s_BadBoundary___init__) l_BadBoundary___init__ c_BadBoundary___init__ k_BadBoundary___init__
  have b_BadBoundary___init__ := F_BadBoundary___init__.binds (ps := P_BadBoundary___init__) fun _ _ _ _ _ _ us hl => match us, hl with | [_, _], _ => rfl
  have F_BadCard___init__ := fun_mk (st := s_BadCard___init__) l_BadCard___init__ c_BadCard___init__ k_BadCard___init__
  have b_BadCard___init__ := F_BadCard___init__.binds (ps := P_BadCard___init__) fun _ _ _ _ _ _ us hl => match us, hl with | [_, _, _], _ => rfl
  have F_BadPlace___init__ := fun_mk (st := s_BadPlace___init__) l_BadPlace___init__ c_BadPlace___init__ k_BadPlace___init__
  have b_BadPlace___init__ := F_BadPlace___init__.binds (ps := P_BadPlace___init__) fun _ _ _ _ _ _ us hl => match us, hl with | [_, _, _], _ => rfl
  have F_NoLayer___init__ := fun_mk (st := s_NoLayer___init__) l_NoLayer___init__ c_NoLayer___init__ k_NoLayer___init__
  have b_NoLayer___init__ := F_NoLayer___init__.binds (ps := P_NoLayer___init__) fun _ _ _ _ _ _ us hl => match us, hl with | [_, _], _ => rfl
  have F_Column___init__ := fun_mk (st := s_Column___init__) l_Column___init__ c_Column___init__ k_Column___init__
  have b_Column___init__ := F_Column___init__.binds (ps := P_Column___init__) fun _ _ _ _ _ _ us hl => match us, hl with | [_, _], _ => rfl
  have F_Column_many := fun_mk (st := s_Column_many) l_Column_many c_Column_many k_Column_many
  have b_Column_many := F_Column_many.binds (ps := P_Column_many) fun _ _ _ _ _ _ us hl => match us, hl with | [_, _, _], _ => rfl
  have F_Column_place := fun_mk (st := s_Column_place) l_Column_place c_Column_place k_Column_place
  have b_Column_place := F_Column_place.binds (ps := P_Column_place) fun _ _ _ _ _ _ us hl => match us, hl with | [_, _], _ => rfl
  have F_Column_height := fun_mk (st := s_Column_height) l_Column_height c_Column_height k_Column_height
  have b_Column_height := F_Column_height.binds (ps := P_Column_height) fun _ _ _ _ _ _ us hl => match us, hl with | [_, _], _ => rfl
  have F_Column_heights := fun_mk (st := s_Column_heights) l_Column_heights c_Column_heights k_Column_heights
  have b_Column_heights := F_Column_heights.binds (ps := P_Column_heights) fun _ _ _ _ _ _ us hl => match us, hl with | [_], _ => rfl
  have F_Column___eq__ := fun_mk (st := s_Column___eq__) l_Column___eq__ c_Column___eq__ k_Column___eq__
  have b_Column___eq__ := F_Column___eq__.binds (ps := P_Column___eq__) fun _ _ _ _ _ _ us hl => match us, hl with | [_, _], _ => rfl
  have F_Column___str__ := fun_mk (st := s_Column___str__) l_Column___str__ c_Column___str__ k_Column___str__
  have b_Column___str__ := F_Column___str__.binds (ps := P_Column___str__) fun _ _ _ _ _ _ us hl => match us, hl with | [_], _ => rfl
  have F_Column___len__ := fun_mk (st := s_Column___len__) l_Column___len__ c_Column___len__ k_Column___len__
  have b_Column___len__ := F_Column___len__.binds (ps := P_Column___len__) fun _ _ _ _ _ _ us hl => match us, hl with | [_], _ => rfl
  have F_Column___iter__ := fun_mk (st := s_Column___iter__) l_Column___iter__ c_Column___iter__ k_Column___iter__
  have b_Column___iter__ := F_Column___iter__.binds (ps := P_Column___iter__) fun _ _ _ _ _ _ us hl => match us, hl with | [_], _ => rfl
  have F_Card___init__ := funV_mk (st := s_Card___init__) l_Card___init__ c_Card___init__ k_Card___init__
  have b_Card___init__ := bindsD (fd := (PySem.W.fnOf "__init__" "Card.__init__" (defArgs s_Card___init__) (defBody s_Card___init__) (defScope s_Card___init__) (.ref dt_Card___init__) kV_Card___init__ dc_Card___init__ pm_Card___init__ an_Card___init__ cd_Card___init__ ct_Card___init__)) (ps := P_Card___init__) lt_Card___init__ rfl fun us hl => match us, hl with | [_, _, _], _ => ⟨_, rfl, rfl⟩
  have F_Card_common := fun_mk (st := s_Card_common) l_Card_common c_Card_common k_Card_common
  have b_Card_common := F_Card_common.binds (ps := P_Card_common) fun _ _ _ _ _ _ us hl => match us, hl with | [_, _], _ => rfl
  have F_Card___eq__ := fun_mk (st := s_Card___eq__) l_Card___eq__ c_Card___eq__ k_Card___eq__
  have b_Card___eq__ := F_Card___eq__.binds (ps := P_Card___eq__) fun _ _ _ _ _ _ us hl => match us, hl with | [_, _], _ => rfl
  have F_Card___len__ := fun_mk (st := s_Card___len__) l_Card___len__ c_Card___len__ k_Card___len__
  have b_Card___len__ := F_Card___len__.binds (ps := P_Card___len__) fun _ _ _ _ _ _ us hl => match us, hl with | [_], _ => rfl
  have F_Card___iter__ := fun_mk (st := s_Card___iter__) l_Card___iter__ c_Card___iter__ k_Card___iter__
  have b_Card___iter__ := F_Card___iter__.binds (ps := P_Card___iter__) fun _ _ _ _ _ _ us hl => match us, hl with | [_], _ => rfl
  have T : Top K mg ({ f_is_number := f_is_number, f_is_whole := f_is_whole, f_is_sequence := f_is_sequence, f_word_fault := f_word_fault, f_common_steps := f_common_steps, f_check_columns := f_check_columns, f_mark_of := f_mark_of, f_new_marks := f_new_marks, f_check_column := f_check_column, f_check_layer := f_check_layer, f_step_layers := f_step_layers, f_layer_of := f_layer_of, f_layer_steps := f_layer_steps, f_middle_of := f_middle_of, f_middles := f_middles, f_thickness := f_thickness, f_touching := f_touching, f_l_mix := f_l_mix, f_l_hand := f_l_hand, f_l_draw := f_l_draw, f_l_word := f_l_word, f_l_near := f_l_near, f_l_words := f_l_words, f_l_heights := f_l_heights, f_l_common := f_l_common, f_l_pick := f_l_pick, f_l_sizes := f_l_sizes, f_l_slits := f_l_slits, f_l_card := f_l_card, f_l_number := f_l_number, f_l_rows := f_l_rows, f_l_place := f_l_place, f_l_steps := f_l_steps, f_l_fault := f_l_fault, f_l_middles := f_l_middles, f_l_touching := f_l_touching, f_l_layer_right := f_l_layer_right, f_law := f_law, f_NoColumn___init__ := f_NoColumn___init__, f_BadColumn___init__ := f_BadColumn___init__, f_BadBoundary___init__ := f_BadBoundary___init__, f_BadCard___init__ := f_BadCard___init__, f_BadPlace___init__ := f_BadPlace___init__, f_NoLayer___init__ := f_NoLayer___init__, f_Column___init__ := f_Column___init__, f_Column_many := f_Column_many, f_Column_place := f_Column_place, f_Column_height := f_Column_height, f_Column_heights := f_Column_heights, f_Column___eq__ := f_Column___eq__, f_Column___str__ := f_Column___str__, f_Column___len__ := f_Column___len__, f_Column___iter__ := f_Column___iter__, f_Card___init__ := f_Card___init__, f_Card_common := f_Card_common, f_Card___eq__ := f_Card___eq__, f_Card___len__ := f_Card___len__, f_Card___iter__ := f_Card___iter__, d_is_number := (PySem.W.fnOf "is_number" "is_number" (defArgs s_is_number) (defBody s_is_number) (defScope s_is_number) .none kV_is_number dc_is_number pm_is_number an_is_number cd_is_number ct_is_number), d_is_whole := (PySem.W.fnOf "is_whole" "is_whole" (defArgs s_is_whole) (defBody s_is_whole) (defScope s_is_whole) .none kV_is_whole dc_is_whole pm_is_whole an_is_whole cd_is_whole ct_is_whole), d_is_sequence := (PySem.W.fnOf "is_sequence" "is_sequence" (defArgs s_is_sequence) (defBody s_is_sequence) (defScope s_is_sequence) .none kV_is_sequence dc_is_sequence pm_is_sequence an_is_sequence cd_is_sequence ct_is_sequence), d_word_fault := (PySem.W.fnOf "word_fault" "word_fault" (defArgs s_word_fault) (defBody s_word_fault) (defScope s_word_fault) .none kV_word_fault dc_word_fault pm_word_fault an_word_fault cd_word_fault ct_word_fault), d_common_steps := (PySem.W.fnOf "common_steps" "common_steps" (defArgs s_common_steps) (defBody s_common_steps) (defScope s_common_steps) .none kV_common_steps dc_common_steps pm_common_steps an_common_steps cd_common_steps ct_common_steps), d_check_columns := (PySem.W.fnOf "check_columns" "check_columns" (defArgs s_check_columns) (defBody s_check_columns) (defScope s_check_columns) .none kV_check_columns dc_check_columns pm_check_columns an_check_columns cd_check_columns ct_check_columns), d_mark_of := (PySem.W.fnOf "mark_of" "mark_of" (defArgs s_mark_of) (defBody s_mark_of) (defScope s_mark_of) .none kV_mark_of dc_mark_of pm_mark_of an_mark_of cd_mark_of ct_mark_of), d_new_marks := (PySem.W.fnOf "new_marks" "new_marks" (defArgs s_new_marks) (defBody s_new_marks) (defScope s_new_marks) .none kV_new_marks dc_new_marks pm_new_marks an_new_marks cd_new_marks ct_new_marks), d_check_column := (PySem.W.fnOf "check_column" "check_column" (defArgs s_check_column) (defBody s_check_column) (defScope s_check_column) .none kV_check_column dc_check_column pm_check_column an_check_column cd_check_column ct_check_column), d_check_layer := (PySem.W.fnOf "check_layer" "check_layer" (defArgs s_check_layer) (defBody s_check_layer) (defScope s_check_layer) .none kV_check_layer dc_check_layer pm_check_layer an_check_layer cd_check_layer ct_check_layer), d_step_layers := (PySem.W.fnOf "step_layers" "step_layers" (defArgs s_step_layers) (defBody s_step_layers) (defScope s_step_layers) .none kV_step_layers dc_step_layers pm_step_layers an_step_layers cd_step_layers ct_step_layers), d_layer_of := (PySem.W.fnOf "layer_of" "layer_of" (defArgs s_layer_of) (defBody s_layer_of) (defScope s_layer_of) .none kV_layer_of dc_layer_of pm_layer_of an_layer_of cd_layer_of ct_layer_of), d_layer_steps := (PySem.W.fnOf "layer_steps" "layer_steps" (defArgs s_layer_steps) (defBody s_layer_steps) (defScope s_layer_steps) .none kV_layer_steps dc_layer_steps pm_layer_steps an_layer_steps cd_layer_steps ct_layer_steps), d_middle_of := (PySem.W.fnOf "middle_of" "middle_of" (defArgs s_middle_of) (defBody s_middle_of) (defScope s_middle_of) .none kV_middle_of dc_middle_of pm_middle_of an_middle_of cd_middle_of ct_middle_of), d_middles := (PySem.W.fnOf "middles" "middles" (defArgs s_middles) (defBody s_middles) (defScope s_middles) .none kV_middles dc_middles pm_middles an_middles cd_middles ct_middles), d_thickness := (PySem.W.fnOf "thickness" "thickness" (defArgs s_thickness) (defBody s_thickness) (defScope s_thickness) .none kV_thickness dc_thickness pm_thickness an_thickness cd_thickness ct_thickness), d_touching := (PySem.W.fnOf "touching" "touching" (defArgs s_touching) (defBody s_touching) (defScope s_touching) .none kV_touching dc_touching pm_touching an_touching cd_touching ct_touching), d_l_mix := (PySem.W.fnOf "_law_mix" "_law_mix" (defArgs s_l_mix) (defBody s_l_mix) (defScope s_l_mix) .none kV_l_mix dc_l_mix pm_l_mix an_l_mix cd_l_mix ct_l_mix), d_l_hand := (PySem.W.fnOf "_law_hand" "_law_hand" (defArgs s_l_hand) (defBody s_l_hand) (defScope s_l_hand) .none kV_l_hand dc_l_hand pm_l_hand an_l_hand cd_l_hand ct_l_hand), d_l_draw := (PySem.W.fnOf "_law_draw" "_law_draw" (defArgs s_l_draw) (defBody s_l_draw) (defScope s_l_draw) .none kV_l_draw dc_l_draw pm_l_draw an_l_draw cd_l_draw ct_l_draw), d_l_word := (PySem.W.fnOf "_law_word" "_law_word" (defArgs s_l_word) (defBody s_l_word) (defScope s_l_word) .none kV_l_word dc_l_word pm_l_word an_l_word cd_l_word ct_l_word), d_l_near := (PySem.W.fnOf "_law_near" "_law_near" (defArgs s_l_near) (defBody s_l_near) (defScope s_l_near) .none kV_l_near dc_l_near pm_l_near an_l_near cd_l_near ct_l_near), d_l_words := (PySem.W.fnOf "_law_words" "_law_words" (defArgs s_l_words) (defBody s_l_words) (defScope s_l_words) .none kV_l_words dc_l_words pm_l_words an_l_words cd_l_words ct_l_words), d_l_heights := (PySem.W.fnOf "_law_heights" "_law_heights" (defArgs s_l_heights) (defBody s_l_heights) (defScope s_l_heights) .none kV_l_heights dc_l_heights pm_l_heights an_l_heights cd_l_heights ct_l_heights), d_l_common := (PySem.W.fnOf "_law_common" "_law_common" (defArgs s_l_common) (defBody s_l_common) (defScope s_l_common) .none kV_l_common dc_l_common pm_l_common an_l_common cd_l_common ct_l_common), d_l_pick := (PySem.W.fnOf "_law_pick" "_law_pick" (defArgs s_l_pick) (defBody s_l_pick) (defScope s_l_pick) .none kV_l_pick dc_l_pick pm_l_pick an_l_pick cd_l_pick ct_l_pick), d_l_sizes := (PySem.W.fnOf "_law_sizes" "_law_sizes" (defArgs s_l_sizes) (defBody s_l_sizes) (defScope s_l_sizes) .none kV_l_sizes dc_l_sizes pm_l_sizes an_l_sizes cd_l_sizes ct_l_sizes), d_l_slits := (PySem.W.fnOf "_law_slits" "_law_slits" (defArgs s_l_slits) (defBody s_l_slits) (defScope s_l_slits) .none kV_l_slits dc_l_slits pm_l_slits an_l_slits cd_l_slits ct_l_slits), d_l_card := (PySem.W.fnOf "_law_card" "_law_card" (defArgs s_l_card) (defBody s_l_card) (defScope s_l_card) .none kV_l_card dc_l_card pm_l_card an_l_card cd_l_card ct_l_card), d_l_number := (PySem.W.fnOf "_law_number" "_law_number" (defArgs s_l_number) (defBody s_l_number) (defScope s_l_number) .none kV_l_number dc_l_number pm_l_number an_l_number cd_l_number ct_l_number), d_l_rows := (PySem.W.fnOf "_law_rows" "_law_rows" (defArgs s_l_rows) (defBody s_l_rows) (defScope s_l_rows) .none kV_l_rows dc_l_rows pm_l_rows an_l_rows cd_l_rows ct_l_rows), d_l_place := (PySem.W.fnOf "_law_place" "_law_place" (defArgs s_l_place) (defBody s_l_place) (defScope s_l_place) .none kV_l_place dc_l_place pm_l_place an_l_place cd_l_place ct_l_place), d_l_steps := (PySem.W.fnOf "_law_steps" "_law_steps" (defArgs s_l_steps) (defBody s_l_steps) (defScope s_l_steps) .none kV_l_steps dc_l_steps pm_l_steps an_l_steps cd_l_steps ct_l_steps), d_l_fault := (PySem.W.fnOf "_law_fault" "_law_fault" (defArgs s_l_fault) (defBody s_l_fault) (defScope s_l_fault) .none kV_l_fault dc_l_fault pm_l_fault an_l_fault cd_l_fault ct_l_fault), d_l_middles := (PySem.W.fnOf "_law_middles" "_law_middles" (defArgs s_l_middles) (defBody s_l_middles) (defScope s_l_middles) .none kV_l_middles dc_l_middles pm_l_middles an_l_middles cd_l_middles ct_l_middles), d_l_touching := (PySem.W.fnOf "_law_touching" "_law_touching" (defArgs s_l_touching) (defBody s_l_touching) (defScope s_l_touching) .none kV_l_touching dc_l_touching pm_l_touching an_l_touching cd_l_touching ct_l_touching), d_l_layer_right := (PySem.W.fnOf "_law_layer_right" "_law_layer_right" (defArgs s_l_layer_right) (defBody s_l_layer_right) (defScope s_l_layer_right) .none kV_l_layer_right dc_l_layer_right pm_l_layer_right an_l_layer_right cd_l_layer_right ct_l_layer_right), d_law := (PySem.W.fnOf "law" "law" (defArgs s_law) (defBody s_law) (defScope s_law) .none kV_law dc_law pm_law an_law cd_law ct_law), d_NoColumn___init__ := (PySem.W.fnOf "__init__" "NoColumn.__init__" (defArgs s_NoColumn___init__) (defBody s_NoColumn___init__) (defScope s_NoColumn___init__) .none kV_NoColumn___init__ dc_NoColumn___init__ pm_NoColumn___init__ an_NoColumn___init__ cd_NoColumn___init__ ct_NoColumn___init__), d_BadColumn___init__ := (PySem.W.fnOf "__init__" "BadColumn.__init__" (defArgs s_BadColumn___init__) (defBody s_BadColumn___init__) (defScope s_BadColumn___init__) .none kV_BadColumn___init__ dc_BadColumn___init__ pm_BadColumn___init__ an_BadColumn___init__ cd_BadColumn___init__ ct_BadColumn___init__), d_BadBoundary___init__ := (PySem.W.fnOf "__init__" "BadBoundary.__init__" (defArgs s_BadBoundary___init__) (defBody s_BadBoundary___init__) (defScope s_BadBoundary___init__) .none kV_BadBoundary___init__ dc_BadBoundary___init__ pm_BadBoundary___init__ an_BadBoundary___init__ cd_BadBoundary___init__ ct_BadBoundary___init__), d_BadCard___init__ := (PySem.W.fnOf "__init__" "BadCard.__init__" (defArgs s_BadCard___init__) (defBody s_BadCard___init__) (defScope s_BadCard___init__) .none kV_BadCard___init__ dc_BadCard___init__ pm_BadCard___init__ an_BadCard___init__ cd_BadCard___init__ ct_BadCard___init__), d_BadPlace___init__ := (PySem.W.fnOf "__init__" "BadPlace.__init__" (defArgs s_BadPlace___init__) (defBody s_BadPlace___init__) (defScope s_BadPlace___init__) .none kV_BadPlace___init__ dc_BadPlace___init__ pm_BadPlace___init__ an_BadPlace___init__ cd_BadPlace___init__ ct_BadPlace___init__), d_NoLayer___init__ := (PySem.W.fnOf "__init__" "NoLayer.__init__" (defArgs s_NoLayer___init__) (defBody s_NoLayer___init__) (defScope s_NoLayer___init__) .none kV_NoLayer___init__ dc_NoLayer___init__ pm_NoLayer___init__ an_NoLayer___init__ cd_NoLayer___init__ ct_NoLayer___init__), d_Column___init__ := (PySem.W.fnOf "__init__" "Column.__init__" (defArgs s_Column___init__) (defBody s_Column___init__) (defScope s_Column___init__) .none kV_Column___init__ dc_Column___init__ pm_Column___init__ an_Column___init__ cd_Column___init__ ct_Column___init__), d_Column_many := (PySem.W.fnOf "many" "Column.many" (defArgs s_Column_many) (defBody s_Column_many) (defScope s_Column_many) .none kV_Column_many dc_Column_many pm_Column_many an_Column_many cd_Column_many ct_Column_many), d_Column_place := (PySem.W.fnOf "place" "Column.place" (defArgs s_Column_place) (defBody s_Column_place) (defScope s_Column_place) .none kV_Column_place dc_Column_place pm_Column_place an_Column_place cd_Column_place ct_Column_place), d_Column_height := (PySem.W.fnOf "height" "Column.height" (defArgs s_Column_height) (defBody s_Column_height) (defScope s_Column_height) .none kV_Column_height dc_Column_height pm_Column_height an_Column_height cd_Column_height ct_Column_height), d_Column_heights := (PySem.W.fnOf "heights" "Column.heights" (defArgs s_Column_heights) (defBody s_Column_heights) (defScope s_Column_heights) .none kV_Column_heights dc_Column_heights pm_Column_heights an_Column_heights cd_Column_heights ct_Column_heights), d_Column___eq__ := (PySem.W.fnOf "__eq__" "Column.__eq__" (defArgs s_Column___eq__) (defBody s_Column___eq__) (defScope s_Column___eq__) .none kV_Column___eq__ dc_Column___eq__ pm_Column___eq__ an_Column___eq__ cd_Column___eq__ ct_Column___eq__), d_Column___str__ := (PySem.W.fnOf "__str__" "Column.__str__" (defArgs s_Column___str__) (defBody s_Column___str__) (defScope s_Column___str__) .none kV_Column___str__ dc_Column___str__ pm_Column___str__ an_Column___str__ cd_Column___str__ ct_Column___str__), d_Column___len__ := (PySem.W.fnOf "__len__" "Column.__len__" (defArgs s_Column___len__) (defBody s_Column___len__) (defScope s_Column___len__) .none kV_Column___len__ dc_Column___len__ pm_Column___len__ an_Column___len__ cd_Column___len__ ct_Column___len__), d_Column___iter__ := (PySem.W.fnOf "__iter__" "Column.__iter__" (defArgs s_Column___iter__) (defBody s_Column___iter__) (defScope s_Column___iter__) .none kV_Column___iter__ dc_Column___iter__ pm_Column___iter__ an_Column___iter__ cd_Column___iter__ ct_Column___iter__), d_Card___init__ := (PySem.W.fnOf "__init__" "Card.__init__" (defArgs s_Card___init__) (defBody s_Card___init__) (defScope s_Card___init__) (.ref dt_Card___init__) kV_Card___init__ dc_Card___init__ pm_Card___init__ an_Card___init__ cd_Card___init__ ct_Card___init__), d_Card_common := (PySem.W.fnOf "common" "Card.common" (defArgs s_Card_common) (defBody s_Card_common) (defScope s_Card_common) .none kV_Card_common dc_Card_common pm_Card_common an_Card_common cd_Card_common ct_Card_common), d_Card___eq__ := (PySem.W.fnOf "__eq__" "Card.__eq__" (defArgs s_Card___eq__) (defBody s_Card___eq__) (defScope s_Card___eq__) .none kV_Card___eq__ dc_Card___eq__ pm_Card___eq__ an_Card___eq__ cd_Card___eq__ ct_Card___eq__), d_Card___len__ := (PySem.W.fnOf "__len__" "Card.__len__" (defArgs s_Card___len__) (defBody s_Card___len__) (defScope s_Card___len__) .none kV_Card___len__ dc_Card___len__ pm_Card___len__ an_Card___len__ cd_Card___len__ ct_Card___len__), d_Card___iter__ := (PySem.W.fnOf "__iter__" "Card.__iter__" (defArgs s_Card___iter__) (defBody s_Card___iter__) (defScope s_Card___iter__) .none kV_Card___iter__ dc_Card___iter__ pm_Card___iter__ an_Card___iter__ cd_Card___iter__ ct_Card___iter__), C_CardError := C_CardError, C_NoColumn := C_NoColumn, C_BadColumn := C_BadColumn, C_BadBoundary := C_BadBoundary, C_BadCard := C_BadCard, C_BadPlace := C_BadPlace, C_NoLayer := C_NoLayer, C_Column := C_Column, C_Card := C_Card, p_Column_heights := p_Column_heights } : Ads) := {
    D_is_number := ⟨F_is_number, b_is_number, PySem.W.mg_of X G a_is_number⟩,
    D_is_whole := ⟨F_is_whole, b_is_whole, PySem.W.mg_of X G a_is_whole⟩,
    D_is_sequence := ⟨F_is_sequence, b_is_sequence, PySem.W.mg_of X G a_is_sequence⟩,
    D_word_fault := ⟨F_word_fault, b_word_fault, PySem.W.mg_of X G a_word_fault⟩,
    D_common_steps := ⟨F_common_steps, b_common_steps, PySem.W.mg_of X G a_common_steps⟩,
    D_check_columns := ⟨F_check_columns, b_check_columns, PySem.W.mg_of X G a_check_columns⟩,
    D_mark_of := ⟨F_mark_of, b_mark_of, PySem.W.mg_of X G a_mark_of⟩,
    D_new_marks := ⟨F_new_marks, b_new_marks, PySem.W.mg_of X G a_new_marks⟩,
    D_check_column := ⟨F_check_column, b_check_column, PySem.W.mg_of X G a_check_column⟩,
    D_check_layer := ⟨F_check_layer, b_check_layer, PySem.W.mg_of X G a_check_layer⟩,
    D_step_layers := ⟨F_step_layers, b_step_layers, PySem.W.mg_of X G a_step_layers⟩,
    D_layer_of := ⟨F_layer_of, b_layer_of, PySem.W.mg_of X G a_layer_of⟩,
    D_layer_steps := ⟨F_layer_steps, b_layer_steps, PySem.W.mg_of X G a_layer_steps⟩,
    D_middle_of := ⟨F_middle_of, b_middle_of, PySem.W.mg_of X G a_middle_of⟩,
    D_middles := ⟨F_middles, b_middles, PySem.W.mg_of X G a_middles⟩,
    D_thickness := ⟨F_thickness, b_thickness, PySem.W.mg_of X G a_thickness⟩,
    D_touching := ⟨F_touching, b_touching, PySem.W.mg_of X G a_touching⟩,
    D_l_mix := ⟨F_l_mix, b_l_mix, PySem.W.mg_of X G a_l_mix⟩,
    D_l_hand := ⟨F_l_hand, b_l_hand, PySem.W.mg_of X G a_l_hand⟩,
    D_l_draw := ⟨F_l_draw, b_l_draw, PySem.W.mg_of X G a_l_draw⟩,
    D_l_word := ⟨F_l_word, b_l_word, PySem.W.mg_of X G a_l_word⟩,
    D_l_near := ⟨F_l_near, b_l_near, PySem.W.mg_of X G a_l_near⟩,
    D_l_words := ⟨F_l_words, b_l_words, PySem.W.mg_of X G a_l_words⟩,
    D_l_heights := ⟨F_l_heights, b_l_heights, PySem.W.mg_of X G a_l_heights⟩,
    D_l_common := ⟨F_l_common, b_l_common, PySem.W.mg_of X G a_l_common⟩,
    D_l_pick := ⟨F_l_pick, b_l_pick, PySem.W.mg_of X G a_l_pick⟩,
    D_l_sizes := ⟨F_l_sizes, b_l_sizes, PySem.W.mg_of X G a_l_sizes⟩,
    D_l_slits := ⟨F_l_slits, b_l_slits, PySem.W.mg_of X G a_l_slits⟩,
    D_l_card := ⟨F_l_card, b_l_card, PySem.W.mg_of X G a_l_card⟩,
    D_l_number := ⟨F_l_number, b_l_number, PySem.W.mg_of X G a_l_number⟩,
    D_l_rows := ⟨F_l_rows, b_l_rows, PySem.W.mg_of X G a_l_rows⟩,
    D_l_place := ⟨F_l_place, b_l_place, PySem.W.mg_of X G a_l_place⟩,
    D_l_steps := ⟨F_l_steps, b_l_steps, PySem.W.mg_of X G a_l_steps⟩,
    D_l_fault := ⟨F_l_fault, b_l_fault, PySem.W.mg_of X G a_l_fault⟩,
    D_l_middles := ⟨F_l_middles, b_l_middles, PySem.W.mg_of X G a_l_middles⟩,
    D_l_touching := ⟨F_l_touching, b_l_touching, PySem.W.mg_of X G a_l_touching⟩,
    D_l_layer_right := ⟨F_l_layer_right, b_l_layer_right, PySem.W.mg_of X G a_l_layer_right⟩,
    D_law := ⟨F_law, b_law, PySem.W.mg_of X G a_law⟩,
    E_Card___init__ := ⟨de_Card___init__, ⟨_, _, em_Card___init__, rfl, rfl⟩, Vv.binds0 lt_Card___init__ rfl fun us hl => match us, hl with | [_, _], _ => ⟨_, rfl, rfl⟩⟩,
    D_NoColumn___init__ := ⟨F_NoColumn___init__, b_NoColumn___init__⟩,
    D_BadColumn___init__ := ⟨F_BadColumn___init__, b_BadColumn___init__⟩,
    D_BadBoundary___init__ := ⟨F_BadBoundary___init__, b_BadBoundary___init__⟩,
    D_BadCard___init__ := ⟨F_BadCard___init__, b_BadCard___init__⟩,
    D_BadPlace___init__ := ⟨F_BadPlace___init__, b_BadPlace___init__⟩,
    D_NoLayer___init__ := ⟨F_NoLayer___init__, b_NoLayer___init__⟩,
    D_Column___init__ := ⟨F_Column___init__, b_Column___init__⟩,
    D_Column_many := ⟨F_Column_many, b_Column_many⟩,
    D_Column_place := ⟨F_Column_place, b_Column_place⟩,
    D_Column_height := ⟨F_Column_height, b_Column_height⟩,
    D_Column_heights := ⟨F_Column_heights, b_Column_heights⟩,
    D_Column___eq__ := ⟨F_Column___eq__, b_Column___eq__⟩,
    D_Column___str__ := ⟨F_Column___str__, b_Column___str__⟩,
    D_Column___len__ := ⟨F_Column___len__, b_Column___len__⟩,
    D_Column___iter__ := ⟨F_Column___iter__, b_Column___iter__⟩,
    D_Card___init__ := ⟨F_Card___init__, b_Card___init__⟩,
    D_Card_common := ⟨F_Card_common, b_Card_common⟩,
    D_Card___eq__ := ⟨F_Card___eq__, b_Card___eq__⟩,
    D_Card___len__ := ⟨F_Card___len__, b_Card___len__⟩,
    D_Card___iter__ := ⟨F_Card___iter__, b_Card___iter__⟩,
    g_CardError := PySem.W.mg_of X G ac_CardError,
    q_NoColumn := ⟨ga_NoColumn, gg_NoColumn, ec_NoColumn, hd_NoColumn, ca_NoColumn, i2, i3, mo_NoColumn⟩,
    is_NoColumn_CardError := is_NoColumn_CardError,
    x_NoColumn := ⟨PySem.W.mg_of X G ac_NoColumn, ⟨⟨_, _, _, _, _, _, _, _, _, _, _, _, _, _, _, xl_NoColumn, rv_NoColumn⟩, sa_NoColumn, ec_NoColumn, ty_NoColumn, kc_NoColumn⟩, ⟨ga_NoColumn, gg_NoColumn, ec_NoColumn, hd_NoColumn⟩, a_NoColumn___init__, ti_NoColumn, exm_of ec_NoColumn ic_NoColumn ty_NoColumn ss_NoColumn⟩,
    g_NoColumn := PySem.W.mg_of X G ac_NoColumn,
    n_NoColumn_column := n_NoColumn_column,
    ex_NoColumn_NoColumn := exm_any ec_NoColumn ic_NoColumn ty_NoColumn eq_NoColumn_NoColumn,
    ex_NoColumn_NoLayer := exm_any ec_NoLayer ic_NoLayer ty_NoLayer eq_NoColumn_NoLayer,
    up_NoColumn_CardError := exm_of ec_CardError ic_CardError ty_CardError up_NoColumn_CardError,
    q_BadColumn := ⟨ga_BadColumn, gg_BadColumn, ec_BadColumn, hd_BadColumn, ca_BadColumn, i2, i3, mo_BadColumn⟩,
    is_BadColumn_CardError := is_BadColumn_CardError,
    x_BadColumn := ⟨PySem.W.mg_of X G ac_BadColumn, ⟨⟨_, _, _, _, _, _, _, _, _, _, _, _, _, _, _, xl_BadColumn, rv_BadColumn⟩, sa_BadColumn, ec_BadColumn, ty_BadColumn, kc_BadColumn⟩, ⟨ga_BadColumn, gg_BadColumn, ec_BadColumn, hd_BadColumn⟩, a_BadColumn___init__, ti_BadColumn, exm_of ec_BadColumn ic_BadColumn ty_BadColumn ss_BadColumn⟩,
    g_BadColumn := PySem.W.mg_of X G ac_BadColumn,
    n_BadColumn_what := n_BadColumn_what,
    ex_BadColumn_NoColumn := exm_any ec_NoColumn ic_NoColumn ty_NoColumn eq_BadColumn_NoColumn,
    ex_BadColumn_NoLayer := exm_any ec_NoLayer ic_NoLayer ty_NoLayer eq_BadColumn_NoLayer,
    up_BadColumn_CardError := exm_of ec_CardError ic_CardError ty_CardError up_BadColumn_CardError,
    q_BadBoundary := ⟨ga_BadBoundary, gg_BadBoundary, ec_BadBoundary, hd_BadBoundary, ca_BadBoundary, i2, i3, mo_BadBoundary⟩,
    is_BadBoundary_CardError := is_BadBoundary_CardError,
    x_BadBoundary := ⟨PySem.W.mg_of X G ac_BadBoundary, ⟨⟨_, _, _, _, _, _, _, _, _, _, _, _, _, _, _, xl_BadBoundary, rv_BadBoundary⟩, sa_BadBoundary, ec_BadBoundary, ty_BadBoundary, kc_BadBoundary⟩, ⟨ga_BadBoundary, gg_BadBoundary, ec_BadBoundary, hd_BadBoundary⟩, a_BadBoundary___init__, ti_BadBoundary, exm_of ec_BadBoundary ic_BadBoundary ty_BadBoundary ss_BadBoundary⟩,
    g_BadBoundary := PySem.W.mg_of X G ac_BadBoundary,
    n_BadBoundary_boundary := n_BadBoundary_boundary,
    ex_BadBoundary_NoColumn := exm_any ec_NoColumn ic_NoColumn ty_NoColumn eq_BadBoundary_NoColumn,
    ex_BadBoundary_NoLayer := exm_any ec_NoLayer ic_NoLayer ty_NoLayer eq_BadBoundary_NoLayer,
    up_BadBoundary_CardError := exm_of ec_CardError ic_CardError ty_CardError up_BadBoundary_CardError,
    q_BadCard := ⟨ga_BadCard, gg_BadCard, ec_BadCard, hd_BadCard, ca_BadCard, i2, i3, mo_BadCard⟩,
    is_BadCard_CardError := is_BadCard_CardError,
    x_BadCard := ⟨PySem.W.mg_of X G ac_BadCard, ⟨⟨_, _, _, _, _, _, _, _, _, _, _, _, _, _, _, xl_BadCard, rv_BadCard⟩, sa_BadCard, ec_BadCard, ty_BadCard, kc_BadCard⟩, ⟨ga_BadCard, gg_BadCard, ec_BadCard, hd_BadCard⟩, a_BadCard___init__, ti_BadCard, exm_of ec_BadCard ic_BadCard ty_BadCard ss_BadCard⟩,
    g_BadCard := PySem.W.mg_of X G ac_BadCard,
    n_BadCard_index := n_BadCard_index,
    n_BadCard_what := n_BadCard_what,
    ex_BadCard_NoColumn := exm_any ec_NoColumn ic_NoColumn ty_NoColumn eq_BadCard_NoColumn,
    ex_BadCard_NoLayer := exm_any ec_NoLayer ic_NoLayer ty_NoLayer eq_BadCard_NoLayer,
    up_BadCard_CardError := exm_of ec_CardError ic_CardError ty_CardError up_BadCard_CardError,
    q_BadPlace := ⟨ga_BadPlace, gg_BadPlace, ec_BadPlace, hd_BadPlace, ca_BadPlace, i2, i3, mo_BadPlace⟩,
    is_BadPlace_CardError := is_BadPlace_CardError,
    x_BadPlace := ⟨PySem.W.mg_of X G ac_BadPlace, ⟨⟨_, _, _, _, _, _, _, _, _, _, _, _, _, _, _, xl_BadPlace, rv_BadPlace⟩, sa_BadPlace, ec_BadPlace, ty_BadPlace, kc_BadPlace⟩, ⟨ga_BadPlace, gg_BadPlace, ec_BadPlace, hd_BadPlace⟩, a_BadPlace___init__, ti_BadPlace, exm_of ec_BadPlace ic_BadPlace ty_BadPlace ss_BadPlace⟩,
    g_BadPlace := PySem.W.mg_of X G ac_BadPlace,
    n_BadPlace_column := n_BadPlace_column,
    n_BadPlace_step := n_BadPlace_step,
    ex_BadPlace_NoColumn := exm_any ec_NoColumn ic_NoColumn ty_NoColumn eq_BadPlace_NoColumn,
    ex_BadPlace_NoLayer := exm_any ec_NoLayer ic_NoLayer ty_NoLayer eq_BadPlace_NoLayer,
    up_BadPlace_CardError := exm_of ec_CardError ic_CardError ty_CardError up_BadPlace_CardError,
    q_NoLayer := ⟨ga_NoLayer, gg_NoLayer, ec_NoLayer, hd_NoLayer, ca_NoLayer, i2, i3, mo_NoLayer⟩,
    is_NoLayer_CardError := is_NoLayer_CardError,
    x_NoLayer := ⟨PySem.W.mg_of X G ac_NoLayer, ⟨⟨_, _, _, _, _, _, _, _, _, _, _, _, _, _, _, xl_NoLayer, rv_NoLayer⟩, sa_NoLayer, ec_NoLayer, ty_NoLayer, kc_NoLayer⟩, ⟨ga_NoLayer, gg_NoLayer, ec_NoLayer, hd_NoLayer⟩, a_NoLayer___init__, ti_NoLayer, exm_of ec_NoLayer ic_NoLayer ty_NoLayer ss_NoLayer⟩,
    g_NoLayer := PySem.W.mg_of X G ac_NoLayer,
    n_NoLayer_layer := n_NoLayer_layer,
    ex_NoLayer_NoColumn := exm_any ec_NoColumn ic_NoColumn ty_NoColumn eq_NoLayer_NoColumn,
    ex_NoLayer_NoLayer := exm_any ec_NoLayer ic_NoLayer ty_NoLayer eq_NoLayer_NoLayer,
    up_NoLayer_CardError := exm_of ec_CardError ic_CardError ty_CardError up_NoLayer_CardError,
    g_Column := PySem.W.mg_of X G ac_Column,
    cl_Column := ⟨pg_Column, hd_Column, po_Column, sa_Column⟩,
    i1_Column := i1_Column,
    i4_Column := i4_Column,
    ii_Column := kit_self,
    it_str_Column := kit_own ic_Column ty_Column it_str_Column,
    it_int_Column := kit_own ic_Column ty_Column it_int_Column,
    it_bool_Column := kit_own ic_Column ty_Column it_bool_Column,
    it_NoneType_Column := kit_own ic_Column ty_Column it_NoneType_Column,
    it_list_Column := kit_own ic_Column ty_Column it_list_Column,
    it_tuple_Column := kit_own ic_Column ty_Column it_tuple_Column,
    it_dict_Column := kit_own ic_Column ty_Column it_dict_Column,
    ti_Column_str := kit_kind (by decide +kernel) ti_str_Column,
    ti_Column_int := kit_kind (by decide +kernel) ti_int_Column,
    ti_Column_bool := kit_kind (by decide +kernel) ti_bool_Column,
    ti_Column_list := kit_kind (by decide +kernel) ti_list_Column,
    ti_Column_tuple := kit_kind (by decide +kernel) ti_tuple_Column,
    kk_Column_Card := kk_Column_Card,
    sb_Column_Card := sb_Column_Card,
    subt_Column := it_tuple_Column,
    subl_Column := it_list_Column,
    subi_Column := it_int_Column,
    sub_Column := sub_Column,
    ne_Column := ⟨ne_Column, i4_Column⟩,
    mk_Column := ⟨mk_Column, a_Column___init__, fn_Column___init__, kc_Column⟩,
    n_Column_word := n_Column_word,
    n_Column_size := n_Column_size,
    o_Column_many := ⟨a_Column_many, fn_Column_many⟩,
    m_Column_many := ⟨a_Column_many, fn_Column_many, k_Column_many⟩,
    o_Column_place := ⟨a_Column_place, fn_Column_place⟩,
    m_Column_place := ⟨a_Column_place, fn_Column_place, k_Column_place⟩,
    o_Column_height := ⟨a_Column_height, fn_Column_height⟩,
    m_Column_height := ⟨a_Column_height, fn_Column_height, k_Column_height⟩,
    p_Column_heights := ⟨a_Column_heights, pg_Column_heights, pt_Column_heights, ⟨_, r_Column_heights⟩⟩,
    o_Column___eq__ := ⟨a_Column___eq__, fn_Column___eq__⟩,
    m_Column___eq__ := ⟨a_Column___eq__, fn_Column___eq__, k_Column___eq__⟩,
    o_Column___str__ := ⟨a_Column___str__, fn_Column___str__⟩,
    m_Column___str__ := ⟨a_Column___str__, fn_Column___str__, k_Column___str__⟩,
    o_Column___len__ := ⟨a_Column___len__, fn_Column___len__⟩,
    m_Column___len__ := ⟨a_Column___len__, fn_Column___len__, k_Column___len__⟩,
    o_Column___iter__ := ⟨a_Column___iter__, fn_Column___iter__⟩,
    m_Column___iter__ := ⟨a_Column___iter__, fn_Column___iter__, k_Column___iter__⟩,
    g_Card := PySem.W.mg_of X G ac_Card,
    cl_Card := ⟨pg_Card, hd_Card, po_Card, sa_Card⟩,
    i1_Card := i1_Card,
    i4_Card := i4_Card,
    ii_Card := kit_self,
    it_str_Card := kit_own ic_Card ty_Card it_str_Card,
    it_int_Card := kit_own ic_Card ty_Card it_int_Card,
    it_bool_Card := kit_own ic_Card ty_Card it_bool_Card,
    it_NoneType_Card := kit_own ic_Card ty_Card it_NoneType_Card,
    it_list_Card := kit_own ic_Card ty_Card it_list_Card,
    it_tuple_Card := kit_own ic_Card ty_Card it_tuple_Card,
    it_dict_Card := kit_own ic_Card ty_Card it_dict_Card,
    ti_Card_str := kit_kind (by decide +kernel) ti_str_Card,
    ti_Card_int := kit_kind (by decide +kernel) ti_int_Card,
    ti_Card_bool := kit_kind (by decide +kernel) ti_bool_Card,
    ti_Card_list := kit_kind (by decide +kernel) ti_list_Card,
    ti_Card_tuple := kit_kind (by decide +kernel) ti_tuple_Card,
    kk_Card_Column := kk_Card_Column,
    sb_Card_Column := sb_Card_Column,
    subt_Card := it_tuple_Card,
    subl_Card := it_list_Card,
    subi_Card := it_int_Card,
    sub_Card := sub_Card,
    ne_Card := ⟨ne_Card, i4_Card⟩,
    mk_Card := ⟨mk_Card, a_Card___init__, fn_Card___init__, kc_Card⟩,
    n_Card_columns := n_Card_columns,
    n_Card_size := n_Card_size,
    n_Card_width := n_Card_width,
    n_Card_words := n_Card_words,
    n_Card_marks := n_Card_marks,
    o_Card_common := ⟨a_Card_common, fn_Card_common⟩,
    m_Card_common := ⟨a_Card_common, fn_Card_common, k_Card_common⟩,
    o_Card___eq__ := ⟨a_Card___eq__, fn_Card___eq__⟩,
    m_Card___eq__ := ⟨a_Card___eq__, fn_Card___eq__, k_Card___eq__⟩,
    o_Card___len__ := ⟨a_Card___len__, fn_Card___len__⟩,
    m_Card___len__ := ⟨a_Card___len__, fn_Card___len__, k_Card___len__⟩,
    o_Card___iter__ := ⟨a_Card___iter__, fn_Card___iter__⟩,
    m_Card___iter__ := ⟨a_Card___iter__, fn_Card___iter__, k_Card___iter__⟩,
    c_MOST_SIZE := ⟨_, PySem.W.mg_of X G kc_MOST_SIZE⟩,
    c_MOST_WIDTH := ⟨_, PySem.W.mg_of X G kc_MOST_WIDTH⟩,
    i2 := i2,
    i3 := i3,
    im_pairwise := PySem.W.mg_of X G im_pairwise,
    b_ValueError := PySem.W.mg_none_of X G z_ValueError,
    b_abs := PySem.W.mg_none_of X G z_abs,
    b_all := PySem.W.mg_none_of X G z_all,
    b_bool := PySem.W.mg_none_of X G z_bool,
    b_classmethod := PySem.W.mg_none_of X G z_classmethod,
    b_enumerate := PySem.W.mg_none_of X G z_enumerate,
    b_int := PySem.W.mg_none_of X G z_int,
    b_isinstance := PySem.W.mg_none_of X G z_isinstance,
    b_iter := PySem.W.mg_none_of X G z_iter,
    b_len := PySem.W.mg_none_of X G z_len,
    b_list := PySem.W.mg_none_of X G z_list,
    b_max := PySem.W.mg_none_of X G z_max,
    b_property := PySem.W.mg_none_of X G z_property,
    b_range := PySem.W.mg_none_of X G z_range,
    b_sorted := PySem.W.mg_none_of X G z_sorted,
    b_staticmethod := PySem.W.mg_none_of X G z_staticmethod,
    b_str := PySem.W.mg_none_of X G z_str,
    b_tuple := PySem.W.mg_none_of X G z_tuple,
    b_zip := PySem.W.mg_none_of X G z_zip }
  exact ⟨(PySem.W.fnOf "law" "law" (defArgs s_law) (defBody s_law) (defScope s_law) .none kV_law dc_law pm_law an_law cd_law ct_law), fun s v => .of_eq rfl, fun base _ _ => ok_law T⟩
theorem walk {l : PySem.W.OpenLaw} {q : Program} {loose : List Str} {XP : (Str → Option Value) → Heap → Prop} {YP : World → Heap → Prop} {d : DefRec} {K : Params → PySem.W.Frag} (hn : l.most = some 63) (hdf : d.params.defaults = [])
    (hY : ∀ (w : World) (h : Heap), YP w h → (K w.params).In h)
    (F : ∀ (w : World) (mg : Str → Option Value) (fa : Addr) (h : Heap), (K w.params).In h → h.Ns mainGlobals mg → mg d.name = some (.ref fa) →
      ∃ fd : FuncData, (∀ (s : Shared) (u : Value), BindsTo s fd ⟨[u], []⟩ [("_law_script", u)]) ∧ ∀ base : Heap, (K w.params).In base → base.Ns mainGlobals mg → FnOk l.prog w (K w.params) mg base CX0 8 fa fd ["_law_script"] (spLaw (K w.params))) :
    PySem.W.WalkO q loose XP YP l.row.toRowW d [] (fun f vs => PySem.call f vs) :=
  L2.walk_ofB (n := 63) (k := 8) (x := "_law_script") (CX := fun _ => CX0) (sp := fun w => spLaw (K w.params)) hn (by decide) hdf ⟨rfl, by decide, by decide⟩ hY F (fun _ _ a ns hl _ _ hS => ⟨a, ns, rfl, hS, hl, fun _ => rfl⟩) fun _ _ _ _ _ z => z
end Sl
namespace Sl
def gtO (o : PySem.Obj) : Option PySem.Obj := match o with
  | ⟨_, _, .freed, _⟩ => none
  | o => some o
theorem get?_eq (h : PySem.Heap) (a : PySem.Addr) : h.get? a = (h.objs.toList[a]?).bind gtO := by
  unfold PySem.Heap.get?
  rw [← Array.getElem?_toList]
  cases h.objs.toList[a]? with
  | none => rfl
  | some o => obtain ⟨_, _, p, _⟩ := o; cases p <;> rfl
noncomputable def wkO (l : List PySem.Obj) : Nat → List Nat → List (Option PySem.Obj) :=
  @List.rec PySem.Obj (fun _ => Nat → List Nat → List (Option PySem.Obj)) (fun _ _ => [])
    (fun o _ ih i as => @List.rec Nat (fun _ => List (Option PySem.Obj)) []
      (fun a r _ => @Bool.rec (fun _ => List (Option PySem.Obj)) (ih (Nat.succ i) as) (gtO o :: ih (Nat.succ i) r) (Nat.beq a i)) as) l
theorem wkO_spec : ∀ (l : List PySem.Obj) (i : Nat) (ps : List (Nat × PySem.Obj)), wkO l i (ps.map (·.1)) = ps.map (fun p => some p.2) →
    ∀ p ∈ ps, i ≤ p.1 ∧ (l[p.1 - i]?).bind gtO = some p.2
  | [], i, [], _, p, hp => nomatch hp
  | [], i, q :: ps, e, p, hp => nomatch (e : ([] : List (Option PySem.Obj)) = some q.2 :: _)
  | o :: l, i, [], _, p, hp => nomatch hp
  | o :: l, i, q :: ps, e, p, hp => by
    change @Bool.rec (fun _ => List (Option PySem.Obj)) (wkO l (i + 1) (q.1 :: ps.map (·.1))) (gtO o :: wkO l (i + 1) (ps.map (·.1))) (Nat.beq q.1 i) = some q.2 :: ps.map (fun p => some p.2) at e
    cases h : Nat.beq q.1 i with
    | false =>
      rw [h] at e
      obtain ⟨a, b⟩ := wkO_spec l (i + 1) (q :: ps) e p hp
      refine ⟨by omega, ?_⟩
      rw [show p.1 - i = (p.1 - (i + 1)) + 1 by omega, List.getElem?_cons_succ]
      exact b
    | true =>
      rw [h] at e
      obtain ⟨e1, e2⟩ := List.cons.inj e
      rcases List.mem_cons.mp hp with rfl | hp
      · have := Nat.eq_of_beq_eq_true h
        rw [this, Nat.sub_self, List.getElem?_cons_zero]
        exact ⟨Nat.le_refl _, e1⟩
      · obtain ⟨a, b⟩ := wkO_spec l (i + 1) ps e2 p hp
        refine ⟨by omega, ?_⟩
        rw [show p.1 - i = (p.1 - (i + 1)) + 1 by omega, List.getElem?_cons_succ]
        exact b
theorem mem_of_lookup {a : Nat} {o : PySem.Obj} : ∀ {K : List (Nat × PySem.Obj)}, K.lookup a = some o → (a, o) ∈ K
  | [], e => nomatch e
  | (b, x) :: r, e => by
    simp only [List.lookup] at e
    split at e
    · rename_i q
      cases e
      rw [beq_iff_eq.mp q]
      exact List.mem_cons_self
    · exact List.mem_cons_of_mem _ (mem_of_lookup e)
noncomputable def wHook (_ : Unit) (K : PySem.Params → PySem.W.Frag) (as : List PySem.Addr) (e : ∀ P, as = (K P).map (·.1)) : PySem.W.Hook :=
  ⟨List (Option PySem.Obj), fun s => wkO s.heap.objs.toList 0 as, fun w => (K w.params).map fun p => some p.2, PySem.W.InK K, fun w s x => by
    intro a o h
    have z := wkO_spec s.heap.objs.toList 0 (K w.params) (by rw [← e]; exact x) (a, o) (mem_of_lookup h)
    rw [get?_eq]
    exact z.2, PySem.W.InK.keeps⟩
end Sl
def PySem.W.Fast.tw17206904858657835558 : Nat := 0
def PySem.W.Fast.tw58313915077850997 : Nat := 0
def PySem.W.Fast.tw7968311306219743188 : Nat := 0
def PySem.W.Fast.tw13833976370322002904 : Nat := 0
local macro_rules
  | `(tactic| o_head ($_h:ident $k $a $e)) => `(tactic| o_head (Sl.wHook () $k $a $e))
open PySem PySem.W PyProof.Rows
set_option maxRecDepth 100000 in
set_option maxHeartbeats 0 in
theorem PySem.Challenge.cw_slitstairs_k19_whole_layers_and_touching_holds : PySem.Challenge.rw_slitstairs_k19_whole_layers_and_touching.Holds := by
  w_on; o_law; k_head; (case hw => w_witness2)
  k_fill
  refine Sl.walk (l := PySem.Challenge.rw_slitstairs_k19_whole_layers_and_touching) rfl rfl (fun w h Y => Y) ?F
  case F =>
    intro w mg fa h KX G hmg
    refine' Sl.all_mk KX G hmg ?ac_CardError ?ac_NoColumn ?ac_BadColumn ?ac_BadBoundary ?ac_BadCard ?ac_BadPlace ?ac_NoLayer ?ac_Column ?ac_Card ?a_is_number ?l_is_number ?c_is_number ?k_is_number ?a_is_whole ?l_is_whole ?c_is_whole ?k_is_whole ?a_is_sequence ?l_is_sequence ?c_is_sequence ?k_is_sequence ?a_word_fault ?l_word_fault ?c_word_fault ?k_word_fault ?a_common_steps ?l_common_steps ?c_common_steps ?k_common_steps ?a_check_columns ?l_check_columns ?c_check_columns ?k_check_columns ?a_mark_of ?l_mark_of ?c_mark_of ?k_mark_of ?a_new_marks ?l_new_marks ?c_new_marks ?k_new_marks ?a_check_column ?l_check_column ?c_check_column ?k_check_column ?a_check_layer ?l_check_layer ?c_check_layer ?k_check_layer ?a_step_layers ?l_step_layers ?c_step_layers ?k_step_layers ?a_layer_of ?l_layer_of ?c_layer_of ?k_layer_of ?a_layer_steps ?l_layer_steps ?c_layer_steps ?k_layer_steps ?a_middle_of ?l_middle_of ?c_middle_of ?k_middle_of ?a_middles ?l_middles ?c_middles ?k_middles ?a_thickness ?l_thickness ?c_thickness ?k_thickness ?a_touching ?l_touching ?c_touching ?k_touching ?a_l_mix ?l_l_mix ?c_l_mix ?k_l_mix ?a_l_hand ?l_l_hand ?c_l_hand ?k_l_hand ?a_l_draw ?l_l_draw ?c_l_draw ?k_l_draw ?a_l_word ?l_l_word ?c_l_word ?k_l_word ?a_l_near ?l_l_near ?c_l_near ?k_l_near ?a_l_words ?l_l_words ?c_l_words ?k_l_words ?a_l_heights ?l_l_heights ?c_l_heights ?k_l_heights ?a_l_common ?l_l_common ?c_l_common ?k_l_common ?a_l_pick ?l_l_pick ?c_l_pick ?k_l_pick ?a_l_sizes ?l_l_sizes ?c_l_sizes ?k_l_sizes ?a_l_slits ?l_l_slits ?c_l_slits ?k_l_slits ?a_l_card ?l_l_card ?c_l_card ?k_l_card ?a_l_number ?l_l_number ?c_l_number ?k_l_number ?a_l_rows ?l_l_rows ?c_l_rows ?k_l_rows ?a_l_place ?l_l_place ?c_l_place ?k_l_place ?a_l_steps ?l_l_steps ?c_l_steps ?k_l_steps ?a_l_fault ?l_l_fault ?c_l_fault ?k_l_fault ?a_l_middles ?l_l_middles ?c_l_middles ?k_l_middles ?a_l_touching ?l_l_touching ?c_l_touching ?k_l_touching ?a_l_layer_right ?l_l_layer_right ?c_l_layer_right ?k_l_layer_right ?a_law ?l_law ?c_law ?k_law ?a_NoColumn___init__ ?l_NoColumn___init__ ?c_NoColumn___init__ ?k_NoColumn___init__ ?fn_NoColumn___init__ ?a_BadColumn___init__ ?l_BadColumn___init__ ?c_BadColumn___init__ ?k_BadColumn___init__ ?fn_BadColumn___init__ ?a_BadBoundary___init__ ?l_BadBoundary___init__ ?c_BadBoundary___init__ ?k_BadBoundary___init__ ?fn_BadBoundary___init__ ?a_BadCard___init__ ?l_BadCard___init__ ?c_BadCard___init__ ?k_BadCard___init__ ?fn_BadCard___init__ ?a_BadPlace___init__ ?l_BadPlace___init__ ?c_BadPlace___init__ ?k_BadPlace___init__ ?fn_BadPlace___init__ ?a_NoLayer___init__ ?l_NoLayer___init__ ?c_NoLayer___init__ ?k_NoLayer___init__ ?fn_NoLayer___init__ ?a_Column___init__ ?l_Column___init__ ?c_Column___init__ ?k_Column___init__ ?fn_Column___init__ ?a_Column_many ?l_Column_many ?c_Column_many ?k_Column_many ?fn_Column_many ?a_Column_place ?l_Column_place ?c_Column_place ?k_Column_place ?fn_Column_place ?a_Column_height ?l_Column_height ?c_Column_height ?k_Column_height ?fn_Column_height ?a_Column_heights ?r_Column_heights ?pg_Column_heights ?pt_Column_heights ?l_Column_heights ?c_Column_heights ?k_Column_heights ?a_Column___eq__ ?l_Column___eq__ ?c_Column___eq__ ?k_Column___eq__ ?fn_Column___eq__ ?a_Column___str__ ?l_Column___str__ ?c_Column___str__ ?k_Column___str__ ?fn_Column___str__ ?a_Column___len__ ?l_Column___len__ ?c_Column___len__ ?k_Column___len__ ?fn_Column___len__ ?a_Column___iter__ ?l_Column___iter__ ?c_Column___iter__ ?k_Column___iter__ ?fn_Column___iter__ ?a_Card___init__ ?l_Card___init__ ?lt_Card___init__ ?em_Card___init__ ?c_Card___init__ ?k_Card___init__ ?fn_Card___init__ ?a_Card_common ?l_Card_common ?c_Card_common ?k_Card_common ?fn_Card_common ?a_Card___eq__ ?l_Card___eq__ ?c_Card___eq__ ?k_Card___eq__ ?fn_Card___eq__ ?a_Card___len__ ?l_Card___len__ ?c_Card___len__ ?k_Card___len__ ?fn_Card___len__ ?a_Card___iter__ ?l_Card___iter__ ?c_Card___iter__ ?k_Card___iter__ ?fn_Card___iter__ ?ec_CardError ?ty_CardError ?ic_CardError ?ss_CardError ?xl_NoColumn ?rv_NoColumn ?sa_NoColumn ?ga_NoColumn ?gg_NoColumn ?kc_NoColumn ?hd_NoColumn ?ti_NoColumn ?ca_NoColumn ?mo_NoColumn ?is_NoColumn_CardError ?ec_NoColumn ?ty_NoColumn ?ic_NoColumn ?ss_NoColumn ?n_NoColumn_column ?eq_NoColumn_NoColumn ?eq_NoColumn_NoLayer ?up_NoColumn_CardError ?xl_BadColumn ?rv_BadColumn ?sa_BadColumn ?ga_BadColumn ?gg_BadColumn ?kc_BadColumn ?hd_BadColumn ?ti_BadColumn ?ca_BadColumn ?mo_BadColumn ?is_BadColumn_CardError ?ec_BadColumn ?ty_BadColumn ?ic_BadColumn ?ss_BadColumn ?n_BadColumn_what ?eq_BadColumn_NoColumn ?eq_BadColumn_NoLayer ?up_BadColumn_CardError ?xl_BadBoundary ?rv_BadBoundary ?sa_BadBoundary ?ga_BadBoundary ?gg_BadBoundary ?kc_BadBoundary ?hd_BadBoundary ?ti_BadBoundary ?ca_BadBoundary ?mo_BadBoundary ?is_BadBoundary_CardError ?ec_BadBoundary ?ty_BadBoundary ?ic_BadBoundary ?ss_BadBoundary ?n_BadBoundary_boundary ?eq_BadBoundary_NoColumn ?eq_BadBoundary_NoLayer ?up_BadBoundary_CardError ?xl_BadCard ?rv_BadCard ?sa_BadCard ?ga_BadCard ?gg_BadCard ?kc_BadCard ?hd_BadCard ?ti_BadCard ?ca_BadCard ?mo_BadCard ?is_BadCard_CardError ?ec_BadCard ?ty_BadCard ?ic_BadCard ?ss_BadCard ?n_BadCard_index ?n_BadCard_what ?eq_BadCard_NoColumn ?eq_BadCard_NoLayer ?up_BadCard_CardError ?xl_BadPlace ?rv_BadPlace ?sa_BadPlace ?ga_BadPlace ?gg_BadPlace ?kc_BadPlace ?hd_BadPlace ?ti_BadPlace ?ca_BadPlace ?mo_BadPlace ?is_BadPlace_CardError ?ec_BadPlace ?ty_BadPlace ?ic_BadPlace ?ss_BadPlace ?n_BadPlace_column ?n_BadPlace_step ?eq_BadPlace_NoColumn ?eq_BadPlace_NoLayer ?up_BadPlace_CardError ?xl_NoLayer ?rv_NoLayer ?sa_NoLayer ?ga_NoLayer ?gg_NoLayer ?kc_NoLayer ?hd_NoLayer ?ti_NoLayer ?ca_NoLayer ?mo_NoLayer ?is_NoLayer_CardError ?ec_NoLayer ?ty_NoLayer ?ic_NoLayer ?ss_NoLayer ?n_NoLayer_layer ?eq_NoLayer_NoColumn ?eq_NoLayer_NoLayer ?up_NoLayer_CardError ?pg_Column ?hd_Column ?po_Column ?sa_Column ?i1_Column ?i4_Column ?ic_Column ?ty_Column ?it_str_Column ?it_int_Column ?it_bool_Column ?it_NoneType_Column ?it_list_Column ?it_tuple_Column ?it_dict_Column ?ti_str_Column ?ti_int_Column ?ti_bool_Column ?ti_list_Column ?ti_tuple_Column ?kk_Column_Card ?sb_Column_Card ?sub_Column ?ne_Column ?mk_Column ?kc_Column ?n_Column_word ?n_Column_size ?pg_Card ?hd_Card ?po_Card ?sa_Card ?i1_Card ?i4_Card ?ic_Card ?ty_Card ?it_str_Card ?it_int_Card ?it_bool_Card ?it_NoneType_Card ?it_list_Card ?it_tuple_Card ?it_dict_Card ?ti_str_Card ?ti_int_Card ?ti_bool_Card ?ti_list_Card ?ti_tuple_Card ?kk_Card_Column ?sb_Card_Column ?sub_Card ?ne_Card ?mk_Card ?kc_Card ?n_Card_columns ?n_Card_size ?n_Card_width ?n_Card_words ?n_Card_marks ?kc_MOST_SIZE ?kc_MOST_WIDTH ?i2 ?i3 ?im_pairwise ?z_ValueError ?z_abs ?z_all ?z_bool ?z_classmethod ?z_enumerate ?z_int ?z_isinstance ?z_iter ?z_len ?z_list ?z_max ?z_property ?z_range ?z_sorted ?z_staticmethod ?z_str ?z_tuple ?z_zip
    (case ac_CardError => as_aux_lemma => k_is)
    (case ac_NoColumn => as_aux_lemma => k_is)
    (case ac_BadColumn => as_aux_lemma => k_is)
    (case ac_BadBoundary => as_aux_lemma => k_is)
    (case ac_BadCard => as_aux_lemma => k_is)
    (case ac_BadPlace => as_aux_lemma => k_is)
    (case ac_NoLayer => as_aux_lemma => k_is)
    (case ac_Column => as_aux_lemma => k_is)
    (case ac_Card => as_aux_lemma => k_is)
    (case a_is_number => as_aux_lemma => k_is)
    (case l_is_number => as_aux_lemma => k_is)
    (case c_is_number => as_aux_lemma => k_is)
    (case k_is_number => as_aux_lemma => k_is)
    (case a_is_whole => as_aux_lemma => k_is)
    (case l_is_whole => as_aux_lemma => k_is)
    (case c_is_whole => as_aux_lemma => k_is)
    (case k_is_whole => as_aux_lemma => k_is)
    (case a_is_sequence => as_aux_lemma => k_is)
    (case l_is_sequence => as_aux_lemma => k_is)
    (case c_is_sequence => as_aux_lemma => k_is)
    (case k_is_sequence => as_aux_lemma => k_is)
    (case a_word_fault => as_aux_lemma => k_is)
    (case l_word_fault => as_aux_lemma => k_is)
    (case c_word_fault => as_aux_lemma => k_is)
    (case k_word_fault => as_aux_lemma => k_is)
    (case a_common_steps => as_aux_lemma => k_is)
    (case l_common_steps => as_aux_lemma => k_is)
    (case c_common_steps => as_aux_lemma => k_is)
    (case k_common_steps => as_aux_lemma => k_is)
    (case a_check_columns => as_aux_lemma => k_is)
    (case l_check_columns => as_aux_lemma => k_is)
    (case c_check_columns => as_aux_lemma => k_is)
    (case k_check_columns => as_aux_lemma => k_is)
    (case a_mark_of => as_aux_lemma => k_is)
    (case l_mark_of => as_aux_lemma => k_is)
    (case c_mark_of => as_aux_lemma => k_is)
    (case k_mark_of => as_aux_lemma => k_is)
    (case a_new_marks => as_aux_lemma => k_is)
    (case l_new_marks => as_aux_lemma => k_is)
    (case c_new_marks => as_aux_lemma => k_is)
    (case k_new_marks => as_aux_lemma => k_is)
    (case a_check_column => as_aux_lemma => k_is)
    (case l_check_column => as_aux_lemma => k_is)
    (case c_check_column => as_aux_lemma => k_is)
    (case k_check_column => as_aux_lemma => k_is)
    (case a_check_layer => as_aux_lemma => k_is)
    (case l_check_layer => as_aux_lemma => k_is)
    (case c_check_layer => as_aux_lemma => k_is)
    (case k_check_layer => as_aux_lemma => k_is)
    (case a_step_layers => as_aux_lemma => k_is)
    (case l_step_layers => as_aux_lemma => k_is)
    (case c_step_layers => as_aux_lemma => k_is)
    (case k_step_layers => as_aux_lemma => k_is)
    (case a_layer_of => as_aux_lemma => k_is)
    (case l_layer_of => as_aux_lemma => k_is)
    (case c_layer_of => as_aux_lemma => k_is)
    (case k_layer_of => as_aux_lemma => k_is)
    (case a_layer_steps => as_aux_lemma => k_is)
    (case l_layer_steps => as_aux_lemma => k_is)
    (case c_layer_steps => as_aux_lemma => k_is)
    (case k_layer_steps => as_aux_lemma => k_is)
    (case a_middle_of => as_aux_lemma => k_is)
    (case l_middle_of => as_aux_lemma => k_is)
    (case c_middle_of => as_aux_lemma => k_is)
    (case k_middle_of => as_aux_lemma => k_is)
    (case a_middles => as_aux_lemma => k_is)
    (case l_middles => as_aux_lemma => k_is)
    (case c_middles => as_aux_lemma => k_is)
    (case k_middles => as_aux_lemma => k_is)
    (case a_thickness => as_aux_lemma => k_is)
    (case l_thickness => as_aux_lemma => k_is)
    (case c_thickness => as_aux_lemma => k_is)
    (case k_thickness => as_aux_lemma => k_is)
    (case a_touching => as_aux_lemma => k_is)
    (case l_touching => as_aux_lemma => k_is)
    (case c_touching => as_aux_lemma => k_is)
    (case k_touching => as_aux_lemma => k_is)
    (case a_l_mix => as_aux_lemma => k_is)
    (case l_l_mix => as_aux_lemma => k_is)
    (case c_l_mix => as_aux_lemma => k_is)
    (case k_l_mix => as_aux_lemma => k_is)
    (case a_l_hand => as_aux_lemma => k_is)
    (case l_l_hand => as_aux_lemma => k_is)
    (case c_l_hand => as_aux_lemma => k_is)
    (case k_l_hand => as_aux_lemma => k_is)
    (case a_l_draw => as_aux_lemma => k_is)
    (case l_l_draw => as_aux_lemma => k_is)
    (case c_l_draw => as_aux_lemma => k_is)
    (case k_l_draw => as_aux_lemma => k_is)
    (case a_l_word => as_aux_lemma => k_is)
    (case l_l_word => as_aux_lemma => k_is)
    (case c_l_word => as_aux_lemma => k_is)
    (case k_l_word => as_aux_lemma => k_is)
    (case a_l_near => as_aux_lemma => k_is)
    (case l_l_near => as_aux_lemma => k_is)
    (case c_l_near => as_aux_lemma => k_is)
    (case k_l_near => as_aux_lemma => k_is)
    (case a_l_words => as_aux_lemma => k_is)
    (case l_l_words => as_aux_lemma => k_is)
    (case c_l_words => as_aux_lemma => k_is)
    (case k_l_words => as_aux_lemma => k_is)
    (case a_l_heights => as_aux_lemma => k_is)
    (case l_l_heights => as_aux_lemma => k_is)
    (case c_l_heights => as_aux_lemma => k_is)
    (case k_l_heights => as_aux_lemma => k_is)
    (case a_l_common => as_aux_lemma => k_is)
    (case l_l_common => as_aux_lemma => k_is)
    (case c_l_common => as_aux_lemma => k_is)
    (case k_l_common => as_aux_lemma => k_is)
    (case a_l_pick => as_aux_lemma => k_is)
    (case l_l_pick => as_aux_lemma => k_is)
    (case c_l_pick => as_aux_lemma => k_is)
    (case k_l_pick => as_aux_lemma => k_is)
    (case a_l_sizes => as_aux_lemma => k_is)
    (case l_l_sizes => as_aux_lemma => k_is)
    (case c_l_sizes => as_aux_lemma => k_is)
    (case k_l_sizes => as_aux_lemma => k_is)
    (case a_l_slits => as_aux_lemma => k_is)
    (case l_l_slits => as_aux_lemma => k_is)
    (case c_l_slits => as_aux_lemma => k_is)
    (case k_l_slits => as_aux_lemma => k_is)
    (case a_l_card => as_aux_lemma => k_is)
    (case l_l_card => as_aux_lemma => k_is)
    (case c_l_card => as_aux_lemma => k_is)
    (case k_l_card => as_aux_lemma => k_is)
    (case a_l_number => as_aux_lemma => k_is)
    (case l_l_number => as_aux_lemma => k_is)
    (case c_l_number => as_aux_lemma => k_is)
    (case k_l_number => as_aux_lemma => k_is)
    (case a_l_rows => as_aux_lemma => k_is)
    (case l_l_rows => as_aux_lemma => k_is)
    (case c_l_rows => as_aux_lemma => k_is)
    (case k_l_rows => as_aux_lemma => k_is)
    (case a_l_place => as_aux_lemma => k_is)
    (case l_l_place => as_aux_lemma => k_is)
    (case c_l_place => as_aux_lemma => k_is)
    (case k_l_place => as_aux_lemma => k_is)
    (case a_l_steps => as_aux_lemma => k_is)
    (case l_l_steps => as_aux_lemma => k_is)
    (case c_l_steps => as_aux_lemma => k_is)
    (case k_l_steps => as_aux_lemma => k_is)
    (case a_l_fault => as_aux_lemma => k_is)
    (case l_l_fault => as_aux_lemma => k_is)
    (case c_l_fault => as_aux_lemma => k_is)
    (case k_l_fault => as_aux_lemma => k_is)
    (case a_l_middles => as_aux_lemma => k_is)
    (case l_l_middles => as_aux_lemma => k_is)
    (case c_l_middles => as_aux_lemma => k_is)
    (case k_l_middles => as_aux_lemma => k_is)
    (case a_l_touching => as_aux_lemma => k_is)
    (case l_l_touching => as_aux_lemma => k_is)
    (case c_l_touching => as_aux_lemma => k_is)
    (case k_l_touching => as_aux_lemma => k_is)
    (case a_l_layer_right => as_aux_lemma => k_is)
    (case l_l_layer_right => as_aux_lemma => k_is)
    (case c_l_layer_right => as_aux_lemma => k_is)
    (case k_l_layer_right => as_aux_lemma => k_is)
    (case a_law => as_aux_lemma => k_is)
    (case l_law => as_aux_lemma => k_is)
    (case c_law => as_aux_lemma => k_is)
    (case k_law => as_aux_lemma => k_is)
    (case a_NoColumn___init__ => as_aux_lemma => k_is)
    (case l_NoColumn___init__ => as_aux_lemma => k_is)
    (case c_NoColumn___init__ => as_aux_lemma => k_is)
    (case k_NoColumn___init__ => as_aux_lemma => k_is)
    (case fn_NoColumn___init__ => as_aux_lemma => k_is)
    (case a_BadColumn___init__ => as_aux_lemma => k_is)
    (case l_BadColumn___init__ => as_aux_lemma => k_is)
    (case c_BadColumn___init__ => as_aux_lemma => k_is)
    (case k_BadColumn___init__ => as_aux_lemma => k_is)
    (case fn_BadColumn___init__ => as_aux_lemma => k_is)
    (case a_BadBoundary___init__ => as_aux_lemma => k_is)
    (case l_BadBoundary___init__ => as_aux_lemma => k_is)
    (case c_BadBoundary___init__ => as_aux_lemma => k_is)
    (case k_BadBoundary___init__ => as_aux_lemma => k_is)
    (case fn_BadBoundary___init__ => as_aux_lemma => k_is)
    (case a_BadCard___init__ => as_aux_lemma => k_is)
    (case l_BadCard___init__ => as_aux_lemma => k_is)
    (case c_BadCard___init__ => as_aux_lemma => k_is)
    (case k_BadCard___init__ => as_aux_lemma => k_is)
    (case fn_BadCard___init__ => as_aux_lemma => k_is)
    (case a_BadPlace___init__ => as_aux_lemma => k_is)
    (case l_BadPlace___init__ => as_aux_lemma => k_is)
    (case c_BadPlace___init__ => as_aux_lemma => k_is)
    (case k_BadPlace___init__ => as_aux_lemma => k_is)
    (case fn_BadPlace___init__ => as_aux_lemma => k_is)
    (case a_NoLayer___init__ => as_aux_lemma => k_is)
    (case l_NoLayer___init__ => as_aux_lemma => k_is)
    (case c_NoLayer___init__ => as_aux_lemma => k_is)
    (case k_NoLayer___init__ => as_aux_lemma => k_is)
    (case fn_NoLayer___init__ => as_aux_lemma => k_is)
    (case a_Column___init__ => as_aux_lemma => k_is)
    (case l_Column___init__ => as_aux_lemma => k_is)
    (case c_Column___init__ => as_aux_lemma => k_is)
    (case k_Column___init__ => as_aux_lemma => k_is)
    (case fn_Column___init__ => as_aux_lemma => k_is)
    (case a_Column_many => as_aux_lemma => k_is)
    (case l_Column_many => as_aux_lemma => k_is)
    (case c_Column_many => as_aux_lemma => k_is)
    (case k_Column_many => as_aux_lemma => k_is)
    (case fn_Column_many => as_aux_lemma => k_is)
    (case a_Column_place => as_aux_lemma => k_is)
    (case l_Column_place => as_aux_lemma => k_is)
    (case c_Column_place => as_aux_lemma => k_is)
    (case k_Column_place => as_aux_lemma => k_is)
    (case fn_Column_place => as_aux_lemma => k_is)
    (case a_Column_height => as_aux_lemma => k_is)
    (case l_Column_height => as_aux_lemma => k_is)
    (case c_Column_height => as_aux_lemma => k_is)
    (case k_Column_height => as_aux_lemma => k_is)
    (case fn_Column_height => as_aux_lemma => k_is)
    (case a_Column_heights => as_aux_lemma => k_is)
    (case r_Column_heights => as_aux_lemma => k_is)
    (case pg_Column_heights => as_aux_lemma => k_is)
    (case pt_Column_heights => as_aux_lemma => k_is)
    (case l_Column_heights => as_aux_lemma => k_is)
    (case c_Column_heights => as_aux_lemma => k_is)
    (case k_Column_heights => as_aux_lemma => k_is)
    (case a_Column___eq__ => as_aux_lemma => k_is)
    (case l_Column___eq__ => as_aux_lemma => k_is)
    (case c_Column___eq__ => as_aux_lemma => k_is)
    (case k_Column___eq__ => as_aux_lemma => k_is)
    (case fn_Column___eq__ => as_aux_lemma => k_is)
    (case a_Column___str__ => as_aux_lemma => k_is)
    (case l_Column___str__ => as_aux_lemma => k_is)
    (case c_Column___str__ => as_aux_lemma => k_is)
    (case k_Column___str__ => as_aux_lemma => k_is)
    (case fn_Column___str__ => as_aux_lemma => k_is)
    (case a_Column___len__ => as_aux_lemma => k_is)
    (case l_Column___len__ => as_aux_lemma => k_is)
    (case c_Column___len__ => as_aux_lemma => k_is)
    (case k_Column___len__ => as_aux_lemma => k_is)
    (case fn_Column___len__ => as_aux_lemma => k_is)
    (case a_Column___iter__ => as_aux_lemma => k_is)
    (case l_Column___iter__ => as_aux_lemma => k_is)
    (case c_Column___iter__ => as_aux_lemma => k_is)
    (case k_Column___iter__ => as_aux_lemma => k_is)
    (case fn_Column___iter__ => as_aux_lemma => k_is)
    (case a_Card___init__ => as_aux_lemma => k_is)
    (case l_Card___init__ => as_aux_lemma => k_is)
    (case lt_Card___init__ => as_aux_lemma => k_is)
    (case em_Card___init__ => as_aux_lemma => k_is)
    (case c_Card___init__ => as_aux_lemma => k_is)
    (case k_Card___init__ => as_aux_lemma => k_is)
    (case fn_Card___init__ => as_aux_lemma => k_is)
    (case a_Card_common => as_aux_lemma => k_is)
    (case l_Card_common => as_aux_lemma => k_is)
    (case c_Card_common => as_aux_lemma => k_is)
    (case k_Card_common => as_aux_lemma => k_is)
    (case fn_Card_common => as_aux_lemma => k_is)
    (case a_Card___eq__ => as_aux_lemma => k_is)
    (case l_Card___eq__ => as_aux_lemma => k_is)
    (case c_Card___eq__ => as_aux_lemma => k_is)
    (case k_Card___eq__ => as_aux_lemma => k_is)
    (case fn_Card___eq__ => as_aux_lemma => k_is)
    (case a_Card___len__ => as_aux_lemma => k_is)
    (case l_Card___len__ => as_aux_lemma => k_is)
    (case c_Card___len__ => as_aux_lemma => k_is)
    (case k_Card___len__ => as_aux_lemma => k_is)
    (case fn_Card___len__ => as_aux_lemma => k_is)
    (case a_Card___iter__ => as_aux_lemma => k_is)
    (case l_Card___iter__ => as_aux_lemma => k_is)
    (case c_Card___iter__ => as_aux_lemma => k_is)
    (case k_Card___iter__ => as_aux_lemma => k_is)
    (case fn_Card___iter__ => as_aux_lemma => k_is)
    (case ec_CardError => as_aux_lemma => k_is)
    (case ty_CardError => as_aux_lemma => k_is)
    (case ic_CardError => as_aux_lemma => k_is)
    (case ss_CardError => as_aux_lemma => first | rfl | k_is)
    (case xl_NoColumn => as_aux_lemma => k_is)
    (case rv_NoColumn => as_aux_lemma => first | rfl | decide +kernel)
    (case sa_NoColumn => as_aux_lemma => k_is)
    (case ga_NoColumn => as_aux_lemma => k_is)
    (case gg_NoColumn => as_aux_lemma => k_is)
    (case kc_NoColumn => as_aux_lemma => k_is)
    (case hd_NoColumn => as_aux_lemma => k_is)
    (case ti_NoColumn => as_aux_lemma => k_is)
    (case ca_NoColumn => as_aux_lemma => k_is)
    (case mo_NoColumn => as_aux_lemma => k_is)
    (case is_NoColumn_CardError => as_aux_lemma => first | rfl | k_is | decide +kernel)
    (case ec_NoColumn => as_aux_lemma => k_is)
    (case ty_NoColumn => as_aux_lemma => k_is)
    (case ic_NoColumn => as_aux_lemma => k_is)
    (case ss_NoColumn => as_aux_lemma => first | rfl | k_is)
    (case n_NoColumn_column => as_aux_lemma => k_is)
    (case eq_NoColumn_NoColumn => as_aux_lemma => first | rfl | k_is)
    (case eq_NoColumn_NoLayer => as_aux_lemma => first | rfl | k_is)
    (case up_NoColumn_CardError => as_aux_lemma => k_is)
    (case xl_BadColumn => as_aux_lemma => k_is)
    (case rv_BadColumn => as_aux_lemma => first | rfl | decide +kernel)
    (case sa_BadColumn => as_aux_lemma => k_is)
    (case ga_BadColumn => as_aux_lemma => k_is)
    (case gg_BadColumn => as_aux_lemma => k_is)
    (case kc_BadColumn => as_aux_lemma => k_is)
    (case hd_BadColumn => as_aux_lemma => k_is)
    (case ti_BadColumn => as_aux_lemma => k_is)
    (case ca_BadColumn => as_aux_lemma => k_is)
    (case mo_BadColumn => as_aux_lemma => k_is)
    (case is_BadColumn_CardError => as_aux_lemma => first | rfl | k_is | decide +kernel)
    (case ec_BadColumn => as_aux_lemma => k_is)
    (case ty_BadColumn => as_aux_lemma => k_is)
    (case ic_BadColumn => as_aux_lemma => k_is)
    (case ss_BadColumn => as_aux_lemma => first | rfl | k_is)
    (case n_BadColumn_what => as_aux_lemma => k_is)
    (case eq_BadColumn_NoColumn => as_aux_lemma => first | rfl | k_is)
    (case eq_BadColumn_NoLayer => as_aux_lemma => first | rfl | k_is)
    (case up_BadColumn_CardError => as_aux_lemma => k_is)
    (case xl_BadBoundary => as_aux_lemma => k_is)
    (case rv_BadBoundary => as_aux_lemma => first | rfl | decide +kernel)
    (case sa_BadBoundary => as_aux_lemma => k_is)
    (case ga_BadBoundary => as_aux_lemma => k_is)
    (case gg_BadBoundary => as_aux_lemma => k_is)
    (case kc_BadBoundary => as_aux_lemma => k_is)
    (case hd_BadBoundary => as_aux_lemma => k_is)
    (case ti_BadBoundary => as_aux_lemma => k_is)
    (case ca_BadBoundary => as_aux_lemma => k_is)
    (case mo_BadBoundary => as_aux_lemma => k_is)
    (case is_BadBoundary_CardError => as_aux_lemma => first | rfl | k_is | decide +kernel)
    (case ec_BadBoundary => as_aux_lemma => k_is)
    (case ty_BadBoundary => as_aux_lemma => k_is)
    (case ic_BadBoundary => as_aux_lemma => k_is)
    (case ss_BadBoundary => as_aux_lemma => first | rfl | k_is)
    (case n_BadBoundary_boundary => as_aux_lemma => k_is)
    (case eq_BadBoundary_NoColumn => as_aux_lemma => first | rfl | k_is)
    (case eq_BadBoundary_NoLayer => as_aux_lemma => first | rfl | k_is)
    (case up_BadBoundary_CardError => as_aux_lemma => k_is)
    (case xl_BadCard => as_aux_lemma => k_is)
    (case rv_BadCard => as_aux_lemma => first | rfl | decide +kernel)
    (case sa_BadCard => as_aux_lemma => k_is)
    (case ga_BadCard => as_aux_lemma => k_is)
    (case gg_BadCard => as_aux_lemma => k_is)
    (case kc_BadCard => as_aux_lemma => k_is)
    (case hd_BadCard => as_aux_lemma => k_is)
    (case ti_BadCard => as_aux_lemma => k_is)
    (case ca_BadCard => as_aux_lemma => k_is)
    (case mo_BadCard => as_aux_lemma => k_is)
    (case is_BadCard_CardError => as_aux_lemma => first | rfl | k_is | decide +kernel)
    (case ec_BadCard => as_aux_lemma => k_is)
    (case ty_BadCard => as_aux_lemma => k_is)
    (case ic_BadCard => as_aux_lemma => k_is)
    (case ss_BadCard => as_aux_lemma => first | rfl | k_is)
    (case n_BadCard_index => as_aux_lemma => k_is)
    (case n_BadCard_what => as_aux_lemma => k_is)
    (case eq_BadCard_NoColumn => as_aux_lemma => first | rfl | k_is)
    (case eq_BadCard_NoLayer => as_aux_lemma => first | rfl | k_is)
    (case up_BadCard_CardError => as_aux_lemma => k_is)
    (case xl_BadPlace => as_aux_lemma => k_is)
    (case rv_BadPlace => as_aux_lemma => first | rfl | decide +kernel)
    (case sa_BadPlace => as_aux_lemma => k_is)
    (case ga_BadPlace => as_aux_lemma => k_is)
    (case gg_BadPlace => as_aux_lemma => k_is)
    (case kc_BadPlace => as_aux_lemma => k_is)
    (case hd_BadPlace => as_aux_lemma => k_is)
    (case ti_BadPlace => as_aux_lemma => k_is)
    (case ca_BadPlace => as_aux_lemma => k_is)
    (case mo_BadPlace => as_aux_lemma => k_is)
    (case is_BadPlace_CardError => as_aux_lemma => first | rfl | k_is | decide +kernel)
    (case ec_BadPlace => as_aux_lemma => k_is)
    (case ty_BadPlace => as_aux_lemma => k_is)
    (case ic_BadPlace => as_aux_lemma => k_is)
    (case ss_BadPlace => as_aux_lemma => first | rfl | k_is)
    (case n_BadPlace_column => as_aux_lemma => k_is)
    (case n_BadPlace_step => as_aux_lemma => k_is)
    (case eq_BadPlace_NoColumn => as_aux_lemma => first | rfl | k_is)
    (case eq_BadPlace_NoLayer => as_aux_lemma => first | rfl | k_is)
    (case up_BadPlace_CardError => as_aux_lemma => k_is)
    (case xl_NoLayer => as_aux_lemma => k_is)
    (case rv_NoLayer => as_aux_lemma => first | rfl | decide +kernel)
    (case sa_NoLayer => as_aux_lemma => k_is)
    (case ga_NoLayer => as_aux_lemma => k_is)
    (case gg_NoLayer => as_aux_lemma => k_is)
    (case kc_NoLayer => as_aux_lemma => k_is)
    (case hd_NoLayer => as_aux_lemma => k_is)
    (case ti_NoLayer => as_aux_lemma => k_is)
    (case ca_NoLayer => as_aux_lemma => k_is)
    (case mo_NoLayer => as_aux_lemma => k_is)
    (case is_NoLayer_CardError => as_aux_lemma => first | rfl | k_is | decide +kernel)
    (case ec_NoLayer => as_aux_lemma => k_is)
    (case ty_NoLayer => as_aux_lemma => k_is)
    (case ic_NoLayer => as_aux_lemma => k_is)
    (case ss_NoLayer => as_aux_lemma => first | rfl | k_is)
    (case n_NoLayer_layer => as_aux_lemma => k_is)
    (case eq_NoLayer_NoColumn => as_aux_lemma => first | rfl | k_is)
    (case eq_NoLayer_NoLayer => as_aux_lemma => first | rfl | k_is)
    (case up_NoLayer_CardError => as_aux_lemma => k_is)
    (case pg_Column => as_aux_lemma => k_is)
    (case hd_Column => as_aux_lemma => k_is)
    (case po_Column => as_aux_lemma => k_is)
    (case sa_Column => as_aux_lemma => k_is)
    (case i1_Column => as_aux_lemma => k_is)
    (case i4_Column => as_aux_lemma => k_is)
    (case ic_Column => as_aux_lemma => k_is)
    (case ty_Column => as_aux_lemma => k_is)
    (case it_str_Column => as_aux_lemma => k_is)
    (case it_int_Column => as_aux_lemma => k_is)
    (case it_bool_Column => as_aux_lemma => k_is)
    (case it_NoneType_Column => as_aux_lemma => k_is)
    (case it_list_Column => as_aux_lemma => k_is)
    (case it_tuple_Column => as_aux_lemma => k_is)
    (case it_dict_Column => as_aux_lemma => k_is)
    (case ti_str_Column => as_aux_lemma => k_is)
    (case ti_int_Column => as_aux_lemma => k_is)
    (case ti_bool_Column => as_aux_lemma => k_is)
    (case ti_list_Column => as_aux_lemma => k_is)
    (case ti_tuple_Column => as_aux_lemma => k_is)
    (case kk_Column_Card => as_aux_lemma => first | rfl | k_is | decide +kernel)
    (case sb_Column_Card => as_aux_lemma => first | rfl | k_is | decide +kernel)
    (case sub_Column => as_aux_lemma => k_is)
    (case ne_Column => as_aux_lemma => k_is)
    (case mk_Column => as_aux_lemma => k_is)
    (case kc_Column => as_aux_lemma => k_is)
    (case n_Column_word => as_aux_lemma => k_is)
    (case n_Column_size => as_aux_lemma => k_is)
    (case pg_Card => as_aux_lemma => k_is)
    (case hd_Card => as_aux_lemma => k_is)
    (case po_Card => as_aux_lemma => k_is)
    (case sa_Card => as_aux_lemma => k_is)
    (case i1_Card => as_aux_lemma => k_is)
    (case i4_Card => as_aux_lemma => k_is)
    (case ic_Card => as_aux_lemma => k_is)
    (case ty_Card => as_aux_lemma => k_is)
    (case it_str_Card => as_aux_lemma => k_is)
    (case it_int_Card => as_aux_lemma => k_is)
    (case it_bool_Card => as_aux_lemma => k_is)
    (case it_NoneType_Card => as_aux_lemma => k_is)
    (case it_list_Card => as_aux_lemma => k_is)
    (case it_tuple_Card => as_aux_lemma => k_is)
    (case it_dict_Card => as_aux_lemma => k_is)
    (case ti_str_Card => as_aux_lemma => k_is)
    (case ti_int_Card => as_aux_lemma => k_is)
    (case ti_bool_Card => as_aux_lemma => k_is)
    (case ti_list_Card => as_aux_lemma => k_is)
    (case ti_tuple_Card => as_aux_lemma => k_is)
    (case kk_Card_Column => as_aux_lemma => first | rfl | k_is | decide +kernel)
    (case sb_Card_Column => as_aux_lemma => first | rfl | k_is | decide +kernel)
    (case sub_Card => as_aux_lemma => k_is)
    (case ne_Card => as_aux_lemma => k_is)
    (case mk_Card => as_aux_lemma => k_is)
    (case kc_Card => as_aux_lemma => k_is)
    (case n_Card_columns => as_aux_lemma => k_is)
    (case n_Card_size => as_aux_lemma => k_is)
    (case n_Card_width => as_aux_lemma => k_is)
    (case n_Card_words => as_aux_lemma => k_is)
    (case n_Card_marks => as_aux_lemma => k_is)
    (case kc_MOST_SIZE => as_aux_lemma => k_is)
    (case kc_MOST_WIDTH => as_aux_lemma => k_is)
    (case i2 => as_aux_lemma => k_is)
    (case i3 => as_aux_lemma => k_is)
    (case im_pairwise => as_aux_lemma => k_is)
    (case z_ValueError => as_aux_lemma => k_is)
    (case z_abs => as_aux_lemma => k_is)
    (case z_all => as_aux_lemma => k_is)
    (case z_bool => as_aux_lemma => k_is)
    (case z_classmethod => as_aux_lemma => k_is)
    (case z_enumerate => as_aux_lemma => k_is)
    (case z_int => as_aux_lemma => k_is)
    (case z_isinstance => as_aux_lemma => k_is)
    (case z_iter => as_aux_lemma => k_is)
    (case z_len => as_aux_lemma => k_is)
    (case z_list => as_aux_lemma => k_is)
    (case z_max => as_aux_lemma => k_is)
    (case z_property => as_aux_lemma => k_is)
    (case z_range => as_aux_lemma => k_is)
    (case z_sorted => as_aux_lemma => k_is)
    (case z_staticmethod => as_aux_lemma => k_is)
    (case z_str => as_aux_lemma => k_is)
    (case z_tuple => as_aux_lemma => k_is)
    (case z_zip => as_aux_lemma => k_is)
