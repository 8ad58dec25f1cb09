import PyProof.Rows.All
import Wide.All
import OpenK.AllK
import Wide.FinOn
import HandS.ForMost
import HandS.Evl
import HandS.Style
import HandS.Wide
import HandS.IsInst
import HandS.Walk
import HandS.EndBits
import HandS.Conv
import HandS.More
import HandS.Star
import HandS.OwnEq
import HandS.ExcInit
import HandS.ExcField
import HandS.ExcOwn
import HandS.HotCalls
import HandS.WordsExc
import HandS.ClsMeth
import HandS.ExcIs
import KE.KExcIs
import PySem.Challenge.RW_gluedlines_k02_forms_made_or_refused
set_option Elab.async false
set_option linter.all false
set_option maxRecDepth 100000
set_option maxHeartbeats 2000000
/-! Fw: what every law's proof here rests on: defs and constants at hand, a pool that draws change, texts walked, lists compared. -/
namespace Kz
open PySem PySem.Spec PyProof.Rows L2 Evl StX

/-! ### constants and defs of the text at hand -/
def Cst (mg : Str → Option Value) (x : Str) (v : V) : Prop := ∃ u, mg x = some u ∧ RelV v u
theorem pe_cst {X : Cx} {x : Str} {v : V} {pos : Pos} (h : Cst X.mg x v) (hg : Gl X x) (hd : (x == ("__debug__" : Str)) = false := by decide) : PE X (.Name x pos) (tC v) := by
  obtain ⟨u, hm, r⟩ := h
  exact pe_glob hg hm r hd
def Df (P : Program) (w : World) (K : PySem.W.Frag) (mg : Str → Option Value) (base : Heap) (x : Str) (ps : List Str) (k : Nat) (sp : Sp) : Prop :=
  ∃ (f : Addr) (fd : FuncData), mg x = some (.ref f) ∧ PySem.W.keepIn K (.ref f) = true ∧ Binds K fd ps [] ∧ FnOk P w K mg base CX0 k f fd ps sp
theorem pe_df {X : Cx} {k : Nat} {ps : List Str} {sp : Sp} {x : Str} {p pos : Pos} {e : Expr} {es : List Expr} {t : TA} (D : Df X.prog X.w X.K X.mg X.base x ps k sp) (hr : Room k X.A) (hg : Gl X x)
    (ha : PA X (e :: es) t) (hdb : (x == ("__debug__" : Str)) = false := by decide) (he : starEach (e :: es) X.env = (false, eval e X.env) :: starEach es X.env := by rfl) (hpl : (backTo pos (starEach es X.env)).any (·.1) = false := by rfl) :
    PE X (.Call (.Name x p) (e :: es) [] pos) (tCall sp [] E0 t) := by
  obtain ⟨f, fd, hm, hk, hb, F⟩ := D
  exact pe_call F hr hg hm hk hb .nil pass0 ha hdb he hpl
theorem pe_df0 {X : Cx} {k : Nat} {ps : List Str} {sp : Sp} {x : Str} {p pos : Pos} (D : Df X.prog X.w X.K X.mg X.base x ps k sp) (hr : Room k X.A) (hg : Gl X x)
    (hdb : (x == ("__debug__" : Str)) = false := by decide) : PE X (.Call (.Name x p) [] [] pos) (tCall sp [] E0 tNil) := by
  obtain ⟨f, fd, hm, hk, hb, F⟩ := D
  exact pe_call0 F hr hg hm hk hb .nil pass0 hdb

/-- a tuple that the text's top made -/
def WT (K : PySem.W.Frag) (a : Addr) (xs : List V) : Prop := ∃ (o : Obj) (its : Array Value) (n : Nat), K.lookup a = some o ∧ o.cls = .type "tuple" ∧ o.data = .seq its n ∧ its.size ≤ sizeLine ∧ Vals xs its.toList
theorem WT.at_ {K : PySem.W.Frag} {a : Addr} {xs : List V} {H : Hp} (h : WT K a xs) : SqT K H a xs := .inr h

/-! ### within a comprehension: the rules at the written part K itself -/
section
variable {X : Cx}
theorem op_in_seqK (K : PySem.W.Frag) (e : X.K = K) : OpR X (compareOp .In) (rIn K false) := e ▸ op_in_seq
theorem op_notIn_seqK (K : PySem.W.Frag) (e : X.K = K) : OpR X (compareOp .NotIn) (rIn K true) := e ▸ op_notIn_seq
theorem op_eqDK (K : PySem.W.Frag) (e : X.K = K) (hu : X.A.units + 64 < cLine) : OpR X (compareOp .Eq) (rEqD K) := e ▸ op_eqD hu
theorem op_neDK (K : PySem.W.Frag) (e : X.K = K) (hu : X.A.units + 64 < cLine) : OpR X (compareOp .NotEq) (rNeD K) := e ▸ op_neD hu
theorem ix_listK (K : PySem.W.Frag) (e : X.K = K) : IxR X (rIxL K) := e ▸ ix_list
theorem ix_tupK (K : PySem.W.Frag) (e : X.K = K) : IxR X (rIxT K) := e ▸ ix_tup
theorem call_len_seqK (K : PySem.W.Frag) (e : X.K = K) : CallR X (.builtin "len") (fun xs H Q => ∃ p ys, xs = [.ref p] ∧ (SqL K H p ys ∨ SqT K H p ys) ∧ Q (.int ys.length) H) := e ▸ call_len_seq
theorem call_isiK' (K : PySem.W.Frag) (e : X.K = K) : CallR X (.builtin "isinstance") (rIsi K) := e ▸ call_isi
theorem call_isiTK (K : PySem.W.Frag) (e : X.K = K) : CallR X (.builtin "isinstance") (rIsiT K) := e ▸ call_isiT
end

/-! ### a pool that draws change: all else stays -/
def pl (s : Int × Int) : HO := .lst [.int s.1, .int s.2]
def hide (p : Addr) (H : Hp) : Hp := fun a => if a = p then none else H a
theorem hide_at {p : Addr} {H : Hp} : hide p H p = none := if_pos rfl
theorem hide_ne {p a : Addr} {H : Hp} (h : a ≠ p) : hide p H a = H a := if_neg h
theorem hide_some {p a : Addr} {H : Hp} {o : HO} (h : hide p H a = some o) : a ≠ p ∧ H a = some o := by
  by_cases e : a = p
  · rw [e, hide_at] at h
    cases h
  · rw [hide_ne e] at h
    exact ⟨e, h⟩
theorem hide_le {p : Addr} {H : Hp} : Ex (hide p H) H := fun _ _ h => (hide_some h).2
theorem hx_of {p : Addr} {H H' : Hp} (e : Ex H H') : Ex (hide p H) H' := hide_le.trans e
theorem hx_hide {p : Addr} {H H' : Hp} (e : Ex (hide p H) H') : Ex (hide p H) (hide p H') := fun a o h => by
  rw [hide_ne (hide_some h).1]
  exact e a o h
theorem hx_trans {p : Addr} {H H1 H2 : Hp} (a : Ex (hide p H) H1) (b : Ex (hide p H1) H2) : Ex (hide p H) H2 := (hx_hide a).trans b
theorem hx_upd {p : Addr} {H : Hp} {o : HO} : Ex (hide p H) (upd H p o) := fun a u h => by
  rw [upd_ne (hide_some h).1]
  exact (hide_some h).2

structure Kn (G : Hp) (p : Addr) (s : Int × Int) (H : Hp) : Prop where
  ex : Ex G H
  at_ : H p = some (pl s)
  fr : G p = none
theorem Kn.next {G H H' : Hp} {p : Addr} {s s' : Int × Int} (k : Kn G p s H) (e : Ex (hide p H) H') (h : H' p = some (pl s')) : Kn G p s' H' :=
  ⟨fun a o ha => e a o (by
    have ne : a ≠ p := fun z => by
      rw [z, k.fr] at ha
      cases ha
    rw [hide_ne ne]
    exact k.ex a o ha), h, k.fr⟩
theorem Kn.same {G H H' : Hp} {p : Addr} {s : Int × Int} (k : Kn G p s H) (e : Ex H H') : Kn G p s H' := k.next (hx_of e) (e p _ k.at_)
theorem Kn.here {H : Hp} {p : Addr} {s : Int × Int} (h : H p = some (pl s)) : Kn (hide p H) p s H := ⟨hide_le, h, hide_at⟩
/-- what is known besides -/
theorem Kn.more {G G' H : Hp} {p : Addr} {s : Int × Int} (k : Kn G p s H) (e : Ex G' H) (h : G' p = none) : Kn G' p s H := ⟨e, k.at_, h⟩

def EvP (te : TE) (σ : L2.St) (G : Hp) (p : Addr) (s : Int × Int) (v : V) (s' : Int × Int) : Prop := ∀ H, Kn G p s H → ∀ Q : VK, (∀ H', Ex (hide p H) H' → H' p = some (pl s') → Q v H') → te σ H Q
def EvAP (ta : TA) (σ : L2.St) (G : Hp) (p : Addr) (s : Int × Int) (vs : List V) (s' : Int × Int) : Prop := ∀ H, Kn G p s H → ∀ Q : List V → Hp → Prop, (∀ H', Ex (hide p H) H' → H' p = some (pl s') → Q vs H') → ta σ H Q
def EvTP (t : TT) (σ : L2.St) (G : Hp) (p : Addr) (s : Int × Int) (b : Bool) (s' : Int × Int) : Prop := ∀ H, Kn G p s H → ∀ Q : Bool → Hp → Prop, (∀ H', Ex (hide p H) H' → H' p = some (pl s') → Q b H') → t σ H Q
def SpP (sp : Sp) (vs : List V) (G : Hp) (p : Addr) (s : Int × Int) (v : V) (s' : Int × Int) : Prop := ∀ H, Kn G p s H → ∀ Q : VK, (∀ H', Ex (hide p H) H' → H' p = some (pl s') → Q v H') → ∀ E : XK, sp vs H Q E
section
variable {K : PySem.W.Frag} {σ : L2.St} {G H : Hp} {p : Addr} {s s1 s2 s3 : Int × Int} {ta tb te : TE} {t u : TT} {x y z v : V} {r : R2}
theorem EvP.of (h : Ev te σ G v) : EvP te σ G p s v s := fun H k Q q => h H k.ex Q fun H' e => q H' (hx_of e) (e p _ k.at_)
theorem EvTP.of {b : Bool} (h : EvT t σ G b) : EvTP t σ G p s b s := fun H k Q q => h H k.ex Q fun H' e => q H' (hx_of e) (e p _ k.at_)
theorem EvAP.of {ta : TA} {vs : List V} (h : EvA ta σ G vs) : EvAP ta σ G p s vs s := fun H k Q q => h H k.ex Q fun H' e => q H' (hx_of e) (e p _ k.at_)
theorem evp_op (ha : EvP ta σ G p s x s1) (hb : EvP tb σ G p s1 y s2) (hr : RV r x y G z) : EvP (tOp r ta tb) σ G p s z s2 := fun H k Q q =>
  ha H k _ fun H1 e1 h1 => hb H1 (k.next e1 h1) _ fun H2 e2 h2 => hr H2 ((k.next e1 h1).next e2 h2).ex Q fun H3 e3 => q H3 (hx_trans (hx_trans e1 e2) (hx_of e3)) (e3 p _ h2)
theorem evp_is {w : V} (h : EvP te σ G p s v s1) (e : v = w) : EvP te σ G p s w s1 := e ▸ h
theorem eap_cons {tr : TA} {vs : List V} (h : EvP ta σ G p s x s1) (hr : EvAP tr σ G p s1 vs s2) : EvAP (tCons ta tr) σ G p s (x :: vs) s2 := fun H k Q q =>
  h H k _ fun H1 e1 h1 => hr H1 (k.next e1 h1) _ fun H2 e2 h2 => q H2 (hx_trans e1 e2) h2
theorem eap_nil : EvAP tNil σ G p s [] s := EvAP.of ea_nil
theorem evp_call {sp : Sp} {E : XK} {ta : TA} {vs : List V} (h : EvAP ta σ G p s vs s1) (hs : SpP sp (vs ++ []) G p s1 z s2) : EvP (tCall sp [] E ta) σ G p s z s2 := fun H k Q q =>
  h H k _ fun H1 e1 h1 => hs H1 (k.next e1 h1) Q (fun H2 e2 h2 => q H2 (hx_trans e1 e2) h2) E
theorem evtp_test {b : Bool} (h : EvP te σ G p s (.bl b) s1) : EvTP (tTest te) σ G p s b s1 := fun H k Q q => h H k _ fun H1 e1 h1 => ⟨b, rfl, q H1 e1 h1⟩
theorem evtp_B {b : Bool} (h : EvP te σ G p s (.bl b) s1) : EvTP (tB te) σ G p s b s1 := fun H k Q q => h H k _ fun H1 e1 h1 => ⟨b, rfl, q H1 e1 h1⟩
theorem evtp_is {a b : Bool} (h : EvTP t σ G p s a s1) (e : a = b) : EvTP t σ G p s b s1 := e ▸ h
theorem evtp_or {a b : Bool} (h1 : EvTP t σ G p s a s1) (h2 : a = false → EvTP u σ G p s1 b s2) (h3 : a = true → s2 = s1) : EvTP (tOr t u) σ G p s (a || b) s2 := fun H k Q q => h1 H k _ fun H1 e1 g1 => by
  cases a with
  | true =>
    show Q true H1
    rw [h3 rfl] at q
    exact q H1 e1 g1
  | false =>
    show u σ H1 Q
    exact h2 rfl H1 (k.next e1 g1) Q fun H2 e2 g2 => q H2 (hx_trans e1 e2) g2
theorem evtp_and {a b : Bool} (h1 : EvTP t σ G p s a s1) (h2 : a = true → EvTP u σ G p s1 b s2) (h3 : a = false → s2 = s1) : EvTP (tAnd t u) σ G p s (a && b) s2 := fun H k Q q => h1 H k _ fun H1 e1 g1 => by
  cases a with
  | true =>
    show u σ H1 Q
    exact h2 rfl H1 (k.next e1 g1) Q fun H2 e2 g2 => q H2 (hx_trans e1 e2) g2
  | false =>
    show Q false H1
    rw [h3 rfl] at q
    exact q H1 e1 g1
theorem evtp_orI {a b : Bool} (h1 : EvTP t σ G p s a s1) (h2 : a = false → EvTP u σ G p s1 b s2) : EvTP (tOr t u) σ G p s (a || b) (if a = true then s1 else s2) := by
  cases a with
  | true => exact evtp_or h1 (fun z => by cases z) (fun _ => rfl)
  | false => exact evtp_or h1 (fun z => h2 z) (fun z => by cases z)
theorem evtp_andI {a b : Bool} (h1 : EvTP t σ G p s a s1) (h2 : a = true → EvTP u σ G p s1 b s2) : EvTP (tAnd t u) σ G p s (a && b) (if a = true then s2 else s1) := by
  cases a with
  | true => exact evtp_and h1 (fun z => h2 z) (fun z => by cases z)
  | false => exact evtp_and h1 (fun z => by cases z) (fun _ => rfl)
theorem evtp_not {a : Bool} (h1 : EvTP t σ G p s a s1) : EvTP (tNot t) σ G p s (!a) s1 := fun H k Q q => h1 H k _ fun H1 e1 g1 => q H1 e1 g1

/-! statements -/
variable {D : Ends} {tu tw tz : TS} {g : TG}
theorem sp_asg {i : Nat} (k : Kn G p s H) (h : EvP te σ G p s v s1) (nx : ∀ H', Kn G p s1 H' → Ex (hide p H) H' → D.nx (σ.set i (some v)) H') : tAsg te (gName i) D σ H := h H k _ fun H' e g => nx H' (k.next e g) e
theorem qp_asg {i : Nat} (k : Kn G p s H) (h : EvP te σ G p s v s1) (nx : ∀ H', Kn G p s1 H' → Ex (hide p H) H' → tz D (σ.set i (some v)) H') : tSeq (tAsg te (gName i)) tz D σ H := sp_asg (D := { D with nx := tz D }) k h nx
theorem sp_ret (k : Kn G p s H) (h : EvP te σ G p s v s1) (nx : ∀ H', Kn G p s1 H' → Ex (hide p H) H' → D.rt v H') : tRet te D σ H := h H k _ fun H' e g => nx H' (k.next e g) e
theorem sp_if {b : Bool} (k : Kn G p s H) (h : EvTP t σ G p s b s1) (h1 : b = true → ∀ H', Kn G p s1 H' → Ex (hide p H) H' → tu D σ H') (h2 : b = false → ∀ H', Kn G p s1 H' → Ex (hide p H) H' → tw D σ H') : tIfS t tu tw D σ H := h H k _ fun H' e g => by
  cases b with
  | true =>
    show tu D σ H'
    exact h1 rfl H' (k.next e g) e
  | false =>
    show tw D σ H'
    exact h2 rfl H' (k.next e g) e
theorem qp_if {b : Bool} (k : Kn G p s H) (h : EvTP t σ G p s b s1) (h1 : b = true → ∀ H', Kn G p s1 H' → Ex (hide p H) H' → tu { D with nx := tz D } σ H') (h2 : b = false → ∀ H', Kn G p s1 H' → Ex (hide p H) H' → tw { D with nx := tz D } σ H') : tSeq (tIfS t tu tw) tz D σ H :=
  sp_if (D := { D with nx := tz D }) k h h1 h2
theorem qp_when {b : Bool} (k : Kn G p s H) (h : EvTP t σ G p s b s1) (h1 : b = true → ∀ H', Kn G p s1 H' → Ex (hide p H) H' → tu { D with nx := tz D } σ H') (h2 : b = false → ∀ H', Kn G p s1 H' → Ex (hide p H) H' → tz D σ H') : tSeq (tIfS t tu tNext) tz D σ H :=
  sp_if (D := { D with nx := tz D }) k h h1 h2
theorem Kn.mut {l : Addr} {o : HO} (k : Kn G p s H) (h : G l = none) (ne : p ≠ l) : Kn G p s (upd H l o) := ⟨Ex.mut k.ex h, by rw [upd_ne ne]; exact k.at_, k.fr⟩
/-- xs.append(a draw) -/
theorem sp_app {K : PySem.W.Frag} {l : Addr} {i : Nat} {xs : List V} (k : Kn G p s H) (hl : H l = some (.lst xs)) (ne : l ≠ p) (hi : σ[i]? = some (some (.ref l))) (h : EvP te σ G p s v s1) (hz : xs.length < 100000) (nx : ∀ H', Kn G p s1 H' → Ex (hide p H) H' → D.nx σ (upd H' l (.lst (xs ++ [v])))) :
    tDrop (tBM K "list" rAppend (tVar i) (tCons te tNil)) D σ H := ⟨_, hi, Or.inl ⟨rfl, xs, sq_of hl⟩, h H k _ fun H' e g => ⟨l, xs, v, rfl, rfl, e l _ (by rw [hide_ne ne]; exact hl), sz_lt hz, nx H' (k.next e g) e⟩⟩
/-- a new list of draws -/
theorem qp_asgLst {ta : TA} {i : Nat} {vs : List V} (k : Kn G p s H) (h : EvAP ta σ G p s vs s1) (hl : vs.length ≤ 100000) (nx : ∀ l H', Kn G p s1 H' → Ex (hide p H) H' → H' l = some (.lst vs) → tz D (σ.set i (some (.ref l))) H') : tSeq (tAsg (tLst ta) (gName i)) tz D σ H :=
  h H k _ fun H' e g => ⟨sz_of hl, fun l nl => nx l _ ((k.next e g).same (Ex.new nl)) (e.trans (Ex.new nl)) upd_same⟩
theorem sp_forR1 {ta : TA} {j : Nat} {n : Int} (k : Kn G p s H) (h : EvAP ta σ G p s [.int n] s1) (hn : 0 ≤ n ∧ n ≤ 100000) (Pv : Nat → L2.St → Hp → Prop) (h0 : ∀ H1, Kn G p s1 H1 → Ex (hide p H) H1 → Pv 0 σ H1)
    (hs : ∀ (i : Nat) σ' H', (i : Int) < n → Pv i σ' H' → tu { D with nx := Pv (i + 1), ct := Pv (i + 1), bk := D.nx } (σ'.set j (some (.int (i : Int)))) H') (hd : ∀ σ' H', Pv n.toNat σ' H' → D.nx σ' H') : tFor (iRng1 ta) (gName j) tu D σ H :=
  h H k _ fun H1 e g1 => ⟨n, rfl, by omega, by omega, for_range (lo := 0) (n := n.toNat) Pv (h0 H1 (k.next e g1) e) (fun i σ' H' hi q => by
    have e0 : (0 : Int) + (i : Int) = (i : Int) := Int.zero_add _
    show tu { D with nx := Pv (i + 1), ct := Pv (i + 1), bk := D.nx } (σ'.set j (some (.int ((0 : Int) + (i : Int))))) H'
    rw [e0]
    exact hs i σ' H' (by omega) q) hd⟩
theorem qp_forR1 {ta : TA} {j : Nat} {n : Int} (k : Kn G p s H) (h : EvAP ta σ G p s [.int n] s1) (hn : 0 ≤ n ∧ n ≤ 100000) (Pv : Nat → L2.St → Hp → Prop) (h0 : ∀ H1, Kn G p s1 H1 → Ex (hide p H) H1 → Pv 0 σ H1)
    (hs : ∀ (i : Nat) σ' H', (i : Int) < n → Pv i σ' H' → tu { D with nx := Pv (i + 1), ct := Pv (i + 1), bk := tz D } (σ'.set j (some (.int (i : Int)))) H') (hd : ∀ σ' H', Pv n.toNat σ' H' → tz D σ' H') : tSeq (tFor (iRng1 ta) (gName j) tu) tz D σ H :=
  sp_forR1 (D := { D with nx := tz D }) k h hn Pv h0 hs hd
end

/-! ### values by operators -/
section
variable {K : PySem.W.Frag} {σ : L2.St} {G H : Hp} {ta tb te : TE} {t : TT} {x y z v : V} {r : R2}
theorem rv_add {i j : Int} : RV (rI0 fun i j => .int (i + j)) (.int i) (.int j) H (.int (i + j)) := rv_I0
theorem rv_mul {i j : Int} (h : (-(2 ^ 64) < i ∧ i < 2 ^ 64) ∨ (-(2 ^ 64) < j ∧ j < 2 ^ 64)) : RV (rI CMul fun i j => .int (i * j)) (.int i) (.int j) H (.int (i * j)) := rv_I h
theorem ev_neg {i : Int} (h : Ev te σ H (.int i)) : Ev (tUn (rU fun i => .int (-i)) te) σ H (.int (-i)) := ev_un h ru_neg
theorem at_last {xs : List V} (h : xs ≠ []) : atI xs (-1) = xs.getLast? := by
  have hl := List.length_pos_iff.mpr h
  unfold atI ixN
  rw [if_neg (by omega), if_pos (by omega), List.getLast?_eq_getElem?]
  show xs[((-1 : Int) + (xs.length : Int)).toNat]? = _
  congr 1
  omega
theorem rv_mod {i j : Int} (h : 0 < j) : RV (rI (fun _ j => 0 < j) fun i j => .int (i % j)) (.int i) (.int j) H (.int (i % j)) := rv_I h
theorem rv_div {i j : Int} (h : 0 < j) (h2 : j < 2 ^ 64) : RV (rI CDivW fun i j => .int (i / j)) (.int i) (.int j) H (.int (i / j)) := rv_I (wide_div (b := 64) h (by omega) (by decide) (by decide))
theorem rv_cat {a b : Str} (h : a.length + b.length ≤ 100000) : RV (fun x y H Q => ∃ i j, x = .str i ∧ y = .str j ∧ i.length + j.length ≤ sizeLine ∧ Q (.str (i ++ j)) H) (.str a) (.str b) H (.str (a ++ b)) :=
  fun H1 _ _ q => ⟨a, b, rfl, rfl, sz_of h, q H1 (Ex.refl H1)⟩
theorem rv_sgn {c : Nat} {z : Str} : RV (fun x y H Q => ∃ (c : Nat) (z : Str), x = .str ⟨#[c]⟩ ∧ y = .str z ∧ Q (.bl (decide (c ∈ z.cps.toList))) H) (.str ⟨#[c]⟩) (.str z) H (.bl (decide (c ∈ z.cps.toList))) :=
  fun H1 _ _ q => ⟨c, z, rfl, rfl, q H1 (Ex.refl H1)⟩
theorem rv_nsgn {c : Nat} {z : Str} : RV (fun x y H Q => ∃ (c : Nat) (z : Str), x = .str ⟨#[c]⟩ ∧ y = .str z ∧ Q (.bl (!decide (c ∈ z.cps.toList))) H) (.str ⟨#[c]⟩) (.str z) H (.bl (!decide (c ∈ z.cps.toList))) :=
  fun H1 _ _ q => ⟨c, z, rfl, rfl, q H1 (Ex.refl H1)⟩
theorem rv_notB {a b : Bool} : RV rNotB (.bl a) (.bl b) H (.bl (!decide (a = b))) := fun H1 _ _ q => ⟨a, b, rfl, rfl, q H1 (Ex.refl H1)⟩
theorem rv_isB {a b : Bool} : RV rIsB (.bl a) (.bl b) H (.bl (decide (a = b))) := fun H1 _ _ q => ⟨a, b, rfl, rfl, q H1 (Ex.refl H1)⟩
/-- int(n), int(truth) -/
theorem ev_int {i : Int} (h : Ev te σ H (.int i)) : Ev (tCB (fun xs H Q => (∃ i, xs = [.int i] ∧ Q (.int i) H) ∨ ∃ k, xs = [.bl k] ∧ Q (.int (if k then 1 else 0)) H) (tCons te tNil)) σ H (.int i) := fun H1 e Q q =>
  h H1 e _ fun H2 e2 => .inl ⟨i, rfl, q H2 e2⟩
theorem ev_intB {b : Bool} (h : Ev te σ H (.bl b)) : Ev (tCB (fun xs H Q => (∃ i, xs = [.int i] ∧ Q (.int i) H) ∨ ∃ k, xs = [.bl k] ∧ Q (.int (if k then 1 else 0)) H) (tCons te tNil)) σ H (.int (if b then 1 else 0)) := fun H1 e Q q =>
  h H1 e _ fun H2 e2 => .inr ⟨b, rfl, q H2 e2⟩
theorem ev_lenS {z : Str} (h : Ev te σ H (.str z)) (hz : z.length ≤ 100000) : Ev (tCB (fun xs H Q => ∃ z, xs = [.str z] ∧ z.length ≤ sizeLine ∧ Q (.int z.length) H) (tCons te tNil)) σ H (.int z.length) := fun H1 e Q q =>
  h H1 e _ fun H2 e2 => ⟨z, rfl, sz_of hz, q H2 e2⟩
theorem ev_lenL {p : Addr} {xs : List V} (h : Ev te σ H (.ref p)) (hx : SqL K H p xs) : Ev (tCB (fun xs H Q => ∃ p ys, xs = [.ref p] ∧ (SqL K H p ys ∨ SqT K H p ys) ∧ Q (.int ys.length) H) (tCons te tNil)) σ H (.int xs.length) := fun H1 e Q q =>
  h H1 e _ fun H2 e2 => ⟨p, xs, rfl, .inl (ex_l (e.trans e2) hx), q H2 e2⟩
theorem ev_min2 {i j : Int} (ha : Ev ta σ H (.int i)) (hb : Ev tb σ H (.int j)) : Ev (tCB (fun xs H Q => ∃ i j, xs = [.int i, .int j] ∧ Q (.int (if j < i then j else i)) H) (tCons ta (tCons tb tNil))) σ H (.int (if j < i then j else i)) := fun H1 e Q q =>
  ha H1 e _ fun H2 e2 => hb H2 (e.trans e2) _ fun H3 e3 => ⟨i, j, rfl, q H3 (e2.trans e3)⟩
theorem ev_max {i j : Int} (ha : Ev ta σ H (.int i)) (hb : Ev tb σ H (.int j)) : Ev (tCB (fun xs H Q => ∃ i j, xs = [.int i, .int j] ∧ Q (.int (if j > i then j else i)) H) (tCons ta (tCons tb tNil))) σ H (.int (if j > i then j else i)) := fun H1 e Q q =>
  ha H1 e _ fun H2 e2 => hb H2 (e.trans e2) _ fun H3 e3 => ⟨i, j, rfl, q H3 (e2.trans e3)⟩
theorem tyx_mono {H H' : Hp} {x : V} {t : Value} (e : Ex H H') (h : TyX K H x t) : TyX K H' x t := by
  cases h with
  | base b =>
    cases b with
    | non => exact .base .non
    | bl x => exact .base (.bl x)
    | int x => exact .base (.int x)
    | str x => exact .base (.str x)
    | flt x => exact .base (.flt x)
    | lst q => exact .base (.lst (e _ _ q))
    | frz q => exact .base (.frz (e _ _ q))
    | tup q => exact .base (.tup (e _ _ q))
    | dK q => exact .base (.dK (e _ _ q))
    | dT q => exact .base (.dT (e _ _ q))
    | ins q cl ha hn htk hm => exact .base (.ins (e _ _ q) cl ha hn htk hm)
  | byt b => exact .byt b
  | set q => exact .set (e _ _ q)
  | kList q c => exact .kList q c
  | kTuple q c => exact .kTuple q c
  | kDict q c => exact .kDict q c
  | fTuple q => exact .fTuple (e _ _ q)
  | fDict q => exact .fDict (e _ _ q)
/-- isinstance(x, T), T a built-in type -/
theorem ev_isi {a c : String} {b : Bool} (h : Ev te σ H x) (ty : TyX K H x (.type a)) (hk : kitB a c = some b) : Ev (tCB (rIsi K) (tCons te (tCons (tC (.ty c)) tNil))) σ H (.bl b) := fun H1 e Q q =>
  h H1 e _ fun H2 e2 => ⟨x, .ty c, .type a, .type c, b, rfl, .ty c, tyx_mono (e.trans e2) ty, kit_ty hk, q H2 e2⟩
/-- all(a new list of truths) -/
theorem ev_all {bs : List Bool} (h : EvL te σ H (bs.map V.bl)) : Ev (tCB (rAll K) (tCons te tNil)) σ H (.bl (bs.all id)) := fun H1 e Q q =>
  h H1 e _ fun p H2 _ e2 h2 => ⟨p, bs, rfl, sq_of h2, q H2 e2⟩
theorem ev_any {bs : List Bool} (h : EvL te σ H (bs.map V.bl)) : Ev (tCB (rAny K) (tCons te tNil)) σ H (.bl (bs.any id)) := fun H1 e Q q =>
  h H1 e _ fun p H2 _ e2 h2 => ⟨p, bs, rfl, sq_of h2, q H2 e2⟩
theorem et_yes : EvT tYes σ H true := fun H1 _ _ q => q H1 (Ex.refl H1)
/-- a comprehension over a text's signs -/
theorem el_lcS {zt : Str} {tl : TE} {j : Nat} {vs : List Nat} (f : Nat → Bool) (w : Nat → V) (h : Ev tl σ H (.str zt)) (hz : zt.cps.size ≤ 40000) (hw : ∀ x, wipe ((wipe σ vs).set j (some x)) vs = wipe σ vs)
    (ht : ∀ (i : Nat) (c : Nat) H1, Ex H H1 → zt.cps[i]? = some c → EvT t ((wipe σ vs).set j (some (.str ⟨#[c]⟩))) H1 (f i)) (he : ∀ (i : Nat) (c : Nat) H1, Ex H H1 → zt.cps[i]? = some c → f i = true → Ev te ((wipe σ vs).set j (some (.str ⟨#[c]⟩))) H1 (w i)) :
    EvL (tLc (iStr tl) (gName j) t te vs) σ H (given zt.cps.size f w) := fun H0 e Q q => h H0 e _ fun H1 e1 => ⟨zt, rfl, fun Dl hD =>
  lc_it walk_str (Cw H1 f w Dl) ⟨hD, Ex.new hD, upd_same⟩ (fun _ _ _ _ => trivial) (fun i x H' H'' hi pc y => by
    obtain ⟨rfl, c, hc, rfl⟩ := y
    exact ⟨hw _, cw_turn pc (by omega) (ht i c H1 (e.trans e1) hc) (fun hf => he i c H1 (e.trans e1) hc hf)⟩)
    (fun H' pc => q Dl H' (fresh_back e1 pc.1) (e1.trans pc.2.1) pc.2.2)⟩
/-- for c in text -/
theorem s_forS {zt : Str} {tl : TE} {j : Nat} {D : Ends} {tu : TS} (h : Ev tl σ H (.str zt)) (Pv : Nat → L2.St → Hp → Prop) (h0 : ∀ H1, Ex H H1 → Pv 0 σ H1)
    (hs : ∀ (i : Nat) (c : Nat) σ' H', zt.cps[i]? = some c → Pv i σ' H' → tu { D with nx := Pv (i + 1), ct := Pv (i + 1), bk := D.nx } (σ'.set j (some (.str ⟨#[c]⟩))) H') (hd : ∀ σ' H', Pv zt.cps.size σ' H' → D.nx σ' H') : tFor (iStr tl) (gName j) tu D σ H :=
  h H (Ex.refl H) _ fun H1 e => ⟨zt, rfl, for_it walk_str Pv (h0 H1 e) (fun _ _ _ _ _ => trivial) (fun i x σ' H' H'' hi pc y => by
    obtain ⟨rfl, c, hc, rfl⟩ := y
    exact hs i c σ' H'' hc pc) hd⟩
theorem q_forS {zt : Str} {tl : TE} {j : Nat} {D : Ends} {tu tz : TS} (h : Ev tl σ H (.str zt)) (Pv : Nat → L2.St → Hp → Prop) (h0 : ∀ H1, Ex H H1 → Pv 0 σ H1)
    (hs : ∀ (i : Nat) (c : Nat) σ' H', zt.cps[i]? = some c → Pv i σ' H' → tu { D with nx := Pv (i + 1), ct := Pv (i + 1), bk := tz D } (σ'.set j (some (.str ⟨#[c]⟩))) H') (hd : ∀ σ' H', Pv zt.cps.size σ' H' → tz D σ' H') : tSeq (tFor (iStr tl) (gName j) tu) tz D σ H :=
  s_forS (D := { D with nx := tz D }) h Pv h0 hs hd

theorem rv_eqI {i j : Int} : RV rEq (.int i) (.int j) H (.bl (decide (i = j))) := fun H1 e Q q => rv_eq (H := H) (x := .int i) (y := .int j) rfl H1 e Q fun H2 e2 => by
  rw [dec_int, show (i == j) = decide (i = j) from rfl]
  exact q H2 e2
theorem rv_neI {i j : Int} : RV rNe (.int i) (.int j) H (.bl (!decide (i = j))) := fun H1 e Q q => rv_ne (H := H) (x := .int i) (y := .int j) rfl H1 e Q fun H2 e2 => by
  rw [dec_int, show (i == j) = decide (i = j) from rfl]
  exact q H2 e2
theorem rv_eqS {i j : Str} : RV rEq (.str i) (.str j) H (.bl (decide (i = j))) := fun H1 e Q q => rv_eq (H := H) (x := .str i) (y := .str j) rfl H1 e Q fun H2 e2 => by
  rw [show decide (V.str i = V.str j) = decide (i = j) from by by_cases h : i = j <;> simp [h]]
  exact q H2 e2
theorem rv_neS {i j : Str} : RV rNe (.str i) (.str j) H (.bl (!decide (i = j))) := fun H1 e Q q => rv_ne (H := H) (x := .str i) (y := .str j) rfl H1 e Q fun H2 e2 => by
  rw [show decide (V.str i = V.str j) = decide (i = j) from by by_cases h : i = j <;> simp [h]]
  exact q H2 e2
theorem rv_neB {i j : Bool} : RV rNe (.bl i) (.bl j) H (.bl (!decide (i = j))) := fun H1 e Q q => rv_ne (H := H) (x := .bl i) (y := .bl j) rfl H1 e Q fun H2 e2 => by
  rw [show decide (V.bl i = V.bl j) = decide (i = j) from by by_cases h : i = j <;> simp [h]]
  exact q H2 e2
theorem rv_eqB {i j : Bool} : RV rEq (.bl i) (.bl j) H (.bl (decide (i = j))) := fun H1 e Q q => rv_eq (H := H) (x := .bl i) (y := .bl j) rfl H1 e Q fun H2 e2 => by
  rw [show decide (V.bl i = V.bl j) = decide (i = j) from by by_cases h : i = j <;> simp [h]]
  exact q H2 e2
/-- a comprehension's list by places is one by items -/
theorem given_eq {α : Type} (l : List α) (d : α) (F : α → Bool) (W : α → V) : given l.length (fun i => F (l.getD i d)) (fun i => W (l.getD i d)) = (l.filter F).map W := by
  have e : l = (List.range l.length).map fun i => l.getD i d := by
    apply List.ext_getElem
    · simp
    · intro i h1 h2
      simp [h1]
  unfold given
  conv => rhs; rw [e, List.filter_map, List.map_map]
  rfl
theorem codes_at {zt : Str} {i c : Nat} (h : zt.cps[i]? = some c) : zt.cps.toList.getD i 0 = c ∧ c ∈ zt.cps.toList := by
  have h2 : zt.cps.toList[i]? = some c := by
    rw [← h]
    simp
  exact ⟨by rw [List.getD_eq_getElem?_getD, h2]; rfl, List.mem_of_getElem? h2⟩
/-- a comprehension over a text, said sign by sign -/
theorem el_lcT {zt : Str} {tl : TE} {j : Nat} {vs : List Nat} (F : Nat → Bool) (W : Nat → V) (h : Ev tl σ H (.str zt)) (hz : zt.length ≤ 40000) (hw : ∀ x, wipe ((wipe σ vs).set j (some x)) vs = wipe σ vs)
    (ht : ∀ (c : Nat) H1, Ex H H1 → c ∈ zt.cps.toList → EvT t ((wipe σ vs).set j (some (.str ⟨#[c]⟩))) H1 (F c)) (he : ∀ (c : Nat) H1, Ex H H1 → c ∈ zt.cps.toList → F c = true → Ev te ((wipe σ vs).set j (some (.str ⟨#[c]⟩))) H1 (W c)) :
    EvL (tLc (iStr tl) (gName j) t te vs) σ H ((zt.cps.toList.filter F).map W) := by
  have e := el_lcS (σ := σ) (H := H) (te := te) (t := t) (zt := zt) (tl := tl) (j := j) (vs := vs) (fun i => F (zt.cps.toList.getD i 0)) (fun i => W (zt.cps.toList.getD i 0)) h hz hw
    (fun i c H1 e1 hc => by rw [(codes_at hc).1]; exact ht c H1 e1 (codes_at hc).2) (fun i c H1 e1 hc hf => by rw [(codes_at hc).1] at hf ⊢; exact he c H1 e1 (codes_at hc).2 hf)
  have e2 : zt.cps.size = zt.cps.toList.length := by simp
  rw [e2, given_eq] at e
  exact e
/-- a comprehension over a list that stands, its items r of the xs -/
theorem el_lcM {α : Type} {a : Addr} {xs : List α} {r : α → V} {tl : TE} {j : Nat} {vs : List Nat} (d : α) (F : α → Bool) (W : α → V) (h : Ev tl σ H (.ref a)) (hx : SqL K H a (xs.map r)) (hz : xs.length ≤ 40000) (hw : ∀ x, wipe ((wipe σ vs).set j (some x)) vs = wipe σ vs)
    (ht : ∀ (x : α) H1, Ex H H1 → x ∈ xs → EvT t ((wipe σ vs).set j (some (r x))) H1 (F x)) (he : ∀ (x : α) H1, Ex H H1 → x ∈ xs → F x = true → Ev te ((wipe σ vs).set j (some (r x))) H1 (W x)) :
    EvL (tLc (iList K tl) (gName j) t te vs) σ H ((xs.filter F).map W) := by
  have key : ∀ (i : Nat) (x : V), (xs.map r)[i]? = some x → r (xs.getD i d) = x ∧ xs.getD i d ∈ xs := fun i x hi => by
    rw [List.getElem?_map] at hi
    cases hy : xs[i]? with
    | none =>
      rw [hy] at hi
      cases hi
    | some y =>
      rw [hy] at hi
      rw [List.getD_eq_getElem?_getD, hy]
      exact ⟨Option.some.inj hi, List.mem_of_getElem? hy⟩
  have e := el_lcL (K := K) (σ := σ) (H := H) (te := te) (t := t) (a := a) (xs := xs.map r) (tl := tl) (j := j) (vs := vs) (fun i => F (xs.getD i d)) (fun i => W (xs.getD i d)) h hx (by rw [List.length_map]; exact hz) hw
    (fun i x H1 e1 hc => by rw [← (key i x hc).1]; exact ht _ H1 e1 (key i x hc).2) (fun i x H1 e1 hc hf => by rw [← (key i x hc).1]; exact he _ H1 e1 (key i x hc).2 hf)
  rw [List.length_map, given_eq] at e
  exact e
/-- a comprehension over a new list -/
theorem el_lcNM {α : Type} {xs : List α} {r : α → V} {tl : TE} {j : Nat} {vs : List Nat} (d : α) (F : α → Bool) (W : α → V) (h : EvL tl σ H (xs.map r)) (hz : xs.length ≤ 40000) (hw : ∀ x, wipe ((wipe σ vs).set j (some x)) vs = wipe σ vs)
    (ht : ∀ (x : α) H1, Ex H H1 → x ∈ xs → EvT t ((wipe σ vs).set j (some (r x))) H1 (F x)) (he : ∀ (x : α) H1, Ex H H1 → x ∈ xs → F x = true → Ev te ((wipe σ vs).set j (some (r x))) H1 (W x)) :
    EvL (tLc (iList K tl) (gName j) t te vs) σ H ((xs.filter F).map W) := by
  have key : ∀ (i : Nat) (x : V), (xs.map r)[i]? = some x → r (xs.getD i d) = x ∧ xs.getD i d ∈ xs := fun i x hi => by
    rw [List.getElem?_map] at hi
    cases hy : xs[i]? with
    | none =>
      rw [hy] at hi
      cases hi
    | some y =>
      rw [hy] at hi
      rw [List.getD_eq_getElem?_getD, hy]
      exact ⟨Option.some.inj hi, List.mem_of_getElem? hy⟩
  have e := el_lcNL (K := K) (σ := σ) (H := H) (te := te) (t := t) (xs := xs.map r) (tl := tl) (j := j) (vs := vs) (fun i => F (xs.getD i d)) (fun i => W (xs.getD i d)) h (by rw [List.length_map]; exact hz) hw
    (fun i x H1 e1 hc => by rw [← (key i x hc).1]; exact ht _ H1 e1 (key i x hc).2) (fun i x H1 e1 hc hf => by rw [← (key i x hc).1]; exact he _ H1 e1 (key i x hc).2 hf)
  rw [List.length_map, given_eq] at e
  exact e
/-- a comprehension over a tuple that stands -/
theorem el_lcUM {α : Type} {a : Addr} {xs : List α} {r : α → V} {tl : TE} {j : Nat} {vs : List Nat} (d : α) (F : α → Bool) (W : α → V) (h : Ev tl σ H (.ref a)) (hx : SqT K H a (xs.map r)) (hz : xs.length ≤ 40000) (hw : ∀ x, wipe ((wipe σ vs).set j (some x)) vs = wipe σ vs)
    (ht : ∀ (x : α) H1, Ex H H1 → x ∈ xs → EvT t ((wipe σ vs).set j (some (r x))) H1 (F x)) (he : ∀ (x : α) H1, Ex H H1 → x ∈ xs → F x = true → Ev te ((wipe σ vs).set j (some (r x))) H1 (W x)) :
    EvL (tLc (iTup K tl) (gName j) t te vs) σ H ((xs.filter F).map W) := by
  have key : ∀ (i : Nat) (x : V), (xs.map r)[i]? = some x → r (xs.getD i d) = x ∧ xs.getD i d ∈ xs := fun i x hi => by
    rw [List.getElem?_map] at hi
    cases hy : xs[i]? with
    | none =>
      rw [hy] at hi
      cases hi
    | some y =>
      rw [hy] at hi
      rw [List.getD_eq_getElem?_getD, hy]
      exact ⟨Option.some.inj hi, List.mem_of_getElem? hy⟩
  have e : EvL (tLc (iTup K tl) (gName j) t te vs) σ H (given (xs.map r).length (fun i => F (xs.getD i d)) (fun i => W (xs.getD i d))) := fun H0 e Q q => h H0 e _ fun H1 e1 => ⟨a, rfl, ⟨xs.map r, ex_t (e.trans e1) hx⟩, fun Dl hD =>
    lc_it walk_tup (Cw H1 (fun i => F (xs.getD i d)) (fun i => W (xs.getD i d)) Dl) ⟨hD, Ex.new hD, upd_same⟩ (fun i H' _ pc => ex_t ((e.trans e1).trans pc.2.1) hx) (fun i x H' H'' hi pc y => by
      obtain ⟨rfl, hy⟩ := y
      obtain ⟨k1, k2⟩ := key i x hy
      rw [List.length_map] at hi
      exact ⟨hw _, cw_turn pc (by omega) (by rw [← k1]; exact ht _ H1 (e.trans e1) k2) (fun hf => by rw [← k1]; exact he _ H1 (e.trans e1) k2 hf)⟩)
      (fun H' pc => q Dl H' (fresh_back e1 pc.1) (e1.trans pc.2.1) pc.2.2)⟩
  rw [List.length_map, given_eq] at e
  exact e
theorem ex_fresh {p : Addr} {H1 H2 H3 : Hp} (hp : H1 p = none) (e2 : Ex H1 H2) (e3 : Ex (hide p H2) H3) : Ex H1 H3 := fun a o h => e3 a o (by
  rw [hide_ne (ne_of_none h hp)]
  exact e2 a o h)
theorem filter_yes {α : Type} (l : List α) : l.filter (fun _ => true) = l := List.filter_eq_self.mpr fun _ _ => rfl

/-! ### flat lists compared -/
def toD : V → PyData
  | .bl b => .bool b
  | .int i => .int i
  | .str x => .str x
  | _ => .none
/-- None, truths, ints and texts of signs that there are -/
def okV : V → Bool
  | .non => true
  | .bl _ => true
  | .int _ => true
  | .str x => x.cps.all (· < 0x110000)
  | _ => false
theorem dp_toD {v : V} (h : okV v = true) : Dp K H v (toD v) := by
  cases v with
  | non => exact .non
  | bl b => exact .bl b
  | int i => exact .int i
  | str x => exact .str x
  | byt _ => cases h
  | flt _ => cases h
  | ref _ => cases h
  | ty _ => cases h
theorem dpAll_toD : ∀ {vs : List V}, (∀ v ∈ vs, okV v = true) → DpAll K H vs (vs.map toD)
  | [], _ => .nil
  | v :: vs, h => .cons (dp_toD (h v List.mem_cons_self)) (dpAll_toD fun u hu => h u (List.mem_cons_of_mem _ hu))
theorem lay_toD {v : V} (h : okV v = true) : (toD v).canLay0 = true ∧ (toD v).depth = 0 := by
  cases v with
  | non => exact ⟨by simp [toD, PyData.canLay0], by simp [toD, PyData.depth]⟩
  | bl b => exact ⟨by simp [toD, PyData.canLay0], by simp [toD, PyData.depth]⟩
  | int i => exact ⟨by simp [toD, PyData.canLay0], by simp [toD, PyData.depth]⟩
  | str x => exact ⟨by simp only [toD, PyData.canLay0]; exact h, by simp [toD, PyData.depth]⟩
  | byt _ => cases h
  | flt _ => cases h
  | ref _ => cases h
  | ty _ => cases h
theorem layAll_toD : ∀ {vs : List V}, (∀ v ∈ vs, okV v = true) → PyData.canLayAll0 (vs.map toD) = true ∧ PyData.depthAll (vs.map toD) = 0
  | [], _ => ⟨by simp [PyData.canLayAll0], by simp [PyData.depthAll]⟩
  | v :: vs, h => by
    have h1 := lay_toD (h v List.mem_cons_self)
    have h2 := layAll_toD (vs := vs) fun u hu => h u (List.mem_cons_of_mem _ hu)
    exact ⟨by simp [PyData.canLayAll0, h1.1, h2.1], by simp [PyData.depthAll, h1.2, h2.2]⟩
theorem shaped_l {vs : List V} (h : ∀ v ∈ vs, okV v = true) : SeqAt.shaped (.list (vs.map toD)) = true := by
  have h2 := layAll_toD h
  show (PyData.canLay0 (.list (vs.map toD)) && decide (PyData.depth (.list (vs.map toD)) ≤ 64)) = true
  rw [Bool.and_eq_true]
  exact ⟨by simp only [PyData.canLay0]; exact h2.1, decide_eq_true (by simp only [PyData.depth]; omega)⟩
theorem shaped_t {vs : List V} (h : ∀ v ∈ vs, okV v = true) : SeqAt.shaped (.tuple (vs.map toD)) = true := by
  have h2 := layAll_toD h
  show (PyData.canLay0 (.tuple (vs.map toD)) && decide (PyData.depth (.tuple (vs.map toD)) ≤ 64)) = true
  rw [Bool.and_eq_true]
  exact ⟨by simp only [PyData.canLay0]; exact h2.1, decide_eq_true (by simp only [PyData.depth]; omega)⟩
/-- equal, item by item -/
def eqF : List V → List V → Bool
  | [], [] => true
  | x :: xs, y :: ys => PyData.eqv (toD x) (toD y) && eqF xs ys
  | _, _ => false
theorem eqvAll_toD : ∀ xs ys : List V, PyData.eqvAll (xs.map toD) (ys.map toD) = eqF xs ys
  | [], [] => by simp [PyData.eqvAll, eqF]
  | x :: xs, y :: ys => by simp only [List.map_cons, PyData.eqvAll, eqF, eqvAll_toD xs ys]
  | [], _ :: _ => by simp [PyData.eqvAll, eqF]
  | _ :: _, [] => by simp [PyData.eqvAll, eqF]
theorem rv_eqL {p q : Addr} {xs ys : List V} (hx : SqL K H p xs) (hy : SqL K H q ys) (h1 : ∀ v ∈ xs, okV v = true) (h2 : ∀ v ∈ ys, okV v = true) : RV (rEqD K) (.ref p) (.ref q) H (.bl (eqF xs ys)) := fun H1 e Q k =>
  ⟨.list (xs.map toD), .list (ys.map toD), .lst (ex_l e hx) (dpAll_toD h1), .lst (ex_l e hy) (dpAll_toD h2), shaped_l h1, shaped_l h2, by
    rw [show PyData.eqv (.list (xs.map toD)) (.list (ys.map toD)) = eqF xs ys by simp only [PyData.eqv, eqvAll_toD]]
    exact k H1 (Ex.refl H1)⟩
theorem rv_neL {p q : Addr} {xs ys : List V} (hx : SqL K H p xs) (hy : SqL K H q ys) (h1 : ∀ v ∈ xs, okV v = true) (h2 : ∀ v ∈ ys, okV v = true) : RV (rNeD K) (.ref p) (.ref q) H (.bl (!eqF xs ys)) := fun H1 e Q k =>
  ⟨.list (xs.map toD), .list (ys.map toD), .lst (ex_l e hx) (dpAll_toD h1), .lst (ex_l e hy) (dpAll_toD h2), shaped_l h1, shaped_l h2, by
    rw [show PyData.eqv (.list (xs.map toD)) (.list (ys.map toD)) = eqF xs ys by simp only [PyData.eqv, eqvAll_toD]]
    exact k H1 (Ex.refl H1)⟩
theorem rv_eqT {p q : Addr} {xs ys : List V} (hx : SqT K H p xs) (hy : SqT K H q ys) (h1 : ∀ v ∈ xs, okV v = true) (h2 : ∀ v ∈ ys, okV v = true) : RV (rEqD K) (.ref p) (.ref q) H (.bl (eqF xs ys)) := fun H1 e Q k =>
  ⟨.tuple (xs.map toD), .tuple (ys.map toD), .tup (ex_t e hx) (dpAll_toD h1), .tup (ex_t e hy) (dpAll_toD h2), shaped_t h1, shaped_t h2, by
    rw [show PyData.eqv (.tuple (xs.map toD)) (.tuple (ys.map toD)) = eqF xs ys by simp only [PyData.eqv, eqvAll_toD]]
    exact k H1 (Ex.refl H1)⟩
theorem okV_str1 {c : Nat} (h : c < 0x110000) : okV (.str ⟨#[c]⟩) = true := by
  show ((#[c] : Array Nat).all fun x => decide (x < 0x110000)) = true
  simp
  omega
theorem rv_neT {p q : Addr} {xs ys : List V} (hx : SqT K H p xs) (hy : SqT K H q ys) (h1 : ∀ v ∈ xs, okV v = true) (h2 : ∀ v ∈ ys, okV v = true) : RV (rNeD K) (.ref p) (.ref q) H (.bl (!eqF xs ys)) := fun H1 e Q k =>
  ⟨.tuple (xs.map toD), .tuple (ys.map toD), .tup (ex_t e hx) (dpAll_toD h1), .tup (ex_t e hy) (dpAll_toD h2), shaped_t h1, shaped_t h2, by
    rw [show PyData.eqv (.tuple (xs.map toD)) (.tuple (ys.map toD)) = eqF xs ys by simp only [PyData.eqv, eqvAll_toD]]
    exact k H1 (Ex.refl H1)⟩
theorem eqF_nil (xs : List V) : eqF xs [] = xs.isEmpty := by
  cases xs <;> rfl
/-- of texts -/
theorem eqF_strs : ∀ xs ys : List Str, eqF (xs.map V.str) (ys.map V.str) = decide (xs = ys)
  | [], [] => rfl
  | x :: xs, y :: ys => by
    show (PyData.eqv (.str x) (.str y) && eqF (xs.map V.str) (ys.map V.str)) = _
    rw [eqF_strs xs ys, show PyData.eqv (.str x) (.str y) = (x == y) by simp only [PyData.eqv]]
    by_cases h : x = y
    · subst h
      by_cases h2 : xs = ys
      · subst h2
        simp
      · simp [h2]
    · simp [h]
  | [], _ :: _ => rfl
  | _ :: _, [] => rfl
theorem eqF_ints : ∀ xs ys : List Int, eqF (xs.map V.int) (ys.map V.int) = decide (xs = ys)
  | [], [] => rfl
  | x :: xs, y :: ys => by
    show (PyData.eqv (.int x) (.int y) && eqF (xs.map V.int) (ys.map V.int)) = _
    rw [eqF_ints xs ys, show PyData.eqv (.int x) (.int y) = (x == y) by simp only [PyData.eqv]]
    by_cases h : x = y
    · subst h
      by_cases h2 : xs = ys
      · subst h2
        simp
      · simp [h2]
    · simp [h]
  | [], _ :: _ => rfl
  | _ :: _, [] => rfl
theorem okV_ints {ns : List Int} : ∀ v ∈ ns.map V.int, okV v = true := fun v h => by
  obtain ⟨i, _, rfl⟩ := List.mem_map.mp h
  rfl
end

/-! ### drawing -/
/-- what a pool is between two draws -/
def Pk (s : Int × Int) : Prop := 0 ≤ s.2 ∧ s.2 < 2147483647
/-- a draw: its digit, and the pool behind it -/
def take (s : Int × Int) (n : Int) : Int × (Int × Int) :=
  if 0 < s.1 then (s.1 % n, (s.1 / n, s.2))
  else (((s.2 * 48271 + 11) % 2147483647 * ((s.2 * 48271 + 11) % 2147483647)) % 2147483629 / 64 % n, (s.1, (s.2 * 48271 + 11) % 2147483647))
theorem take_pos {s : Int × Int} {n : Int} (h : 0 < s.1) : take s n = (s.1 % n, (s.1 / n, s.2)) := if_pos h
theorem take_neg {s : Int × Int} {n : Int} (h : ¬ 0 < s.1) : take s n = (((s.2 * 48271 + 11) % 2147483647 * ((s.2 * 48271 + 11) % 2147483647)) % 2147483629 / 64 % n, (s.1, (s.2 * 48271 + 11) % 2147483647)) := if_neg h
theorem take_lt {s : Int × Int} {n : Int} (h : 0 < n) : 0 ≤ (take s n).1 ∧ (take s n).1 < n := by
  by_cases c : 0 < s.1
  · rw [take_pos c]
    exact ⟨Int.emod_nonneg _ (by omega), Int.emod_lt_of_pos _ h⟩
  · rw [take_neg c]
    exact ⟨Int.emod_nonneg _ (by omega), Int.emod_lt_of_pos _ h⟩
theorem take_pk {s : Int × Int} {n : Int} (h : Pk s) : Pk (take s n).2 := by
  by_cases c : 0 < s.1
  · rw [take_pos c]
    exact h
  · rw [take_neg c]
    exact ⟨Int.emod_nonneg _ (by omega), Int.emod_lt_of_pos _ (by omega)⟩
/-- the script's cell for k -/
def cellAt (ns : List Int) (k : Int) : Int := if ns = [] then 0 else ns.getD (k % (ns.length : Int)).toNat 0
def pool0 (ns : List Int) (k : Int) : Int × Int :=
  (cellAt ns k * (if decide (10 ^ 18 ≤ cellAt ns k) then 1 else 0), (cellAt ns k % 2147483629 + 104729 * k + 11) * 48271 % 2147483647)
theorem pool0_pk (ns : List Int) (k : Int) : Pk (pool0 ns k) := ⟨Int.emod_nonneg _ (by omega), Int.emod_lt_of_pos _ (by omega)⟩
/-- what a def that draws hands back: v, the pool at p then s' -/
def RetP (p : Addr) (s' : Int × Int) (v : V) (H : Hp) (Q : VK) : Prop := ∀ H', Ex (hide p H) H' → H' p = some (pl s') → Q v H'
def spTake : Sp := fun vs H Q _ => ∃ (p : Addr) (s : Int × Int) (n : Int), vs = [.ref p, .int n] ∧ H p = some (pl s) ∧ Pk s ∧ 0 < n ∧ n < 2 ^ 60 ∧ RetP p (take s n).2 (.int (take s n).1) H Q
theorem sp_take {G : Hp} {p : Addr} {s : Int × Int} {n : Int} (h : Pk s) (h0 : 0 < n) (h1 : n < 2 ^ 60) : SpP spTake [.ref p, .int n] G p s (.int (take s n).1) (take s n).2 := fun H k Q q _ =>
  ⟨p, s, n, rfl, k.at_, h, h0, h1, q⟩
def spPool (K : PySem.W.Frag) : Sp := fun vs H Q _ => ∃ (a : Addr) (ns : List Int) (k : Int), vs = [.ref a, .int k] ∧ SqL K H a (ns.map V.int) ∧ ns.length ≤ 63 ∧ 0 ≤ k ∧ k ≤ 1000 ∧ ∀ p H', H p = none → Ex H H' → H' p = some (pl (pool0 ns k)) → Q (.ref p) H'

/-! ### more rules: a text times a number, list(text) -/
def repS (z : Str) (k : Nat) : Str := ⟨((List.replicate k z.cps.toList).flatten).toArray⟩
theorem rep_fold (a : Array Nat) : ∀ (k : Nat) (acc : Array Nat), (List.replicate k a).foldl (· ++ ·) acc = acc ++ ((List.replicate k a.toList).flatten).toArray
  | 0, acc => by simp
  | k + 1, acc => by
    simp only [List.replicate_succ, List.foldl_cons, List.flatten_cons]
    rw [rep_fold a k]
    apply Array.ext'
    simp
theorem repS_len (z : Str) (k : Nat) : (repS z k).length = k * z.length := by
  show ((List.replicate k z.cps.toList).flatten).toArray.size = _
  rw [List.size_toArray, List.length_flatten, List.map_replicate, List.sum_replicate_nat]
  show k * z.cps.toList.length = k * z.cps.size
  simp
def rMulS : R2 := fun x y H Q => ∃ (z : Str) (n : Int), x = .str z ∧ y = .int n ∧ 0 ≤ n ∧ n ≤ 1000 ∧ z.length ≤ 1000 ∧ Q (.str (repS z n.toNat)) H
theorem op_mulS {X : Cx} : OpR X (binaryOp .Mult) rMulS := by
  intro pins s σ H x y v u Q I rx ry h
  obtain ⟨z, n, rfl, rfl, h0, h1, hz, q⟩ := h
  obtain ⟨t, rfl⟩ := rx
  obtain ⟨t', rfl⟩ := ry
  have hm : z.length * n.toNat ≤ 1000 * 1000 := Nat.mul_le_mul hz (by omega)
  refine PySem.P.mul_str (by rw [decide_eq_false (by omega), decide_eq_false (by omega)]; rfl) (fun _ _ hh => ?_) (fun _ _ => ?_) ?_
  · have h2 : (1000 : Int) ≤ (2 ^ 63 - 1) / n := by
      have hn : 0 < n := by omega
      rw [Int.le_ediv_iff_mul_le hn]
      have : 1000 * n ≤ 1000 * 1000 := by omega
      have e : (1000 : Int) * 1000 ≤ 2 ^ 63 - 1 := by decide
      omega
    omega
  · exact decide_eq_false (by
      have : (1000 * 1000 : Nat) ≤ sizeLine := by decide
      omega)
  · by_cases c : n < 1
    · rw [if_pos c]
      have e : repS z n.toNat = Str.empty := by
        rw [show n.toNat = 0 by omega]
        rfl
      exact ⟨by decide, .str (repS z n.toNat), H, I.tok _, ⟨_, by rw [e]⟩, q⟩
    · rw [if_neg c]
      by_cases d : (n == 1 || z.length == 0) = true
      · rw [if_pos d]
        have e : repS z n.toNat = z := by
          rcases Bool.or_eq_true _ _ ▸ d with d | d
          · have : n = 1 := by simpa using d
            rw [this]
            show (⟨((List.replicate 1 z.cps.toList).flatten).toArray⟩ : Str) = z
            cases z with
            | mk a => simp
          · have hz0 : z.cps.size = 0 := eq_of_beq d
            cases z with
            | mk a =>
              have : a = #[] := Array.eq_empty_of_size_eq_zero hz0
              subst this
              unfold repS
              have : ∀ k : Nat, (List.replicate k ([] : List Nat)).flatten = [] := fun k => by induction k with
                | zero => rfl
                | succ k ih => simpa [List.replicate_succ] using ih
              show (⟨((List.replicate n.toNat ([] : List Nat)).flatten).toArray⟩ : Str) = _
              rw [this]
        exact ⟨.str (repS z n.toNat), H, I, ⟨_, by rw [e]⟩, q⟩
      · rw [if_neg d]
        have e : (⟨(List.replicate n.toNat z.cps).foldl (· ++ ·) #[]⟩ : Str) = repS z n.toNat := by
          rw [rep_fold]
          unfold repS
          simp
        rw [e]
        have hl := repS_len z n.toNat
        refine ⟨?_, .str (repS z n.toNat), H, I.tok _, ⟨_, rfl⟩, q⟩
        rw [hl, Nat.mul_comm]
        have : (1000 * 1000 : Nat) ≤ sizeLine := by decide
        omega
/-- the signs of a text, a text each -/
def chars (z : Str) : List V := z.cps.toList.map fun c => V.str ⟨#[c]⟩
def rListStr : List V → Hp → VK → Prop := fun xs H Q => ∃ z : Str, xs = [.str z] ∧ z.length ≤ sizeLine ∧ ∀ l, H l = none → Q (.ref l) (upd H l (.lst (chars z)))
theorem call_listS {X : Cx} (hc : X.calm = true) : CallR X (.type "list") rListStr := by
  intro pins s σ H xs us Q I r h
  obtain ⟨z, rfl, hz, q⟩ := h
  obtain ⟨u, rfl, rx⟩ := vals1 r
  obtain ⟨t, rfl⟩ := rx
  refine PySem.call_list_str (I.ok.hd hc) z t (fun h' tk acc' c' hk e hi => ?_) (by simpa [Str.length] using hz)
  have hlen : (chars z).length = z.cps.size := by simp [chars]
  refine ⟨.ref s.heap.objs.size, upd H s.heap.objs.size (.lst (chars z)), I.laid hk (Nat.le_refl _) ⟨by rw [hlen]; exact hz, acc'.toList, c', ?_, by rw [Array.toArray_toList]; exact e⟩, rfl, q _ (I.hok.fresh (Nat.le_refl _))⟩
  refine vals_of_idx _ _ (by rw [hlen, Array.length_toList]; exact hi.1) fun j u hj => ?_
  obtain ⟨c, t', hc, rfl⟩ := hi.2 j u (by rw [← Array.getElem?_toList]; exact hj)
  refine ⟨.str ⟨#[c]⟩, ?_, ⟨_, rfl⟩⟩
  unfold chars
  rw [List.getElem?_map, Array.getElem?_toList, hc]
  rfl
section
variable {K : PySem.W.Frag} {σ : L2.St} {G H : Hp} {ta tb te : TE} {t : TT} {x y z v : V} {r : R2} {D : Ends} {tz : TS}
theorem rv_rep {zt : Str} {n : Int} (h0 : 0 ≤ n) (h1 : n ≤ 1000) (hz : zt.length ≤ 1000) : RV rMulS (.str zt) (.int n) H (.str (repS zt n.toNat)) := fun H1 _ _ q => ⟨zt, n, rfl, rfl, h0, h1, hz, q H1 (Ex.refl H1)⟩
theorem el_listS {zt : Str} (h : Ev te σ H (.str zt)) (hz : zt.length ≤ 100000) : EvL (tCB rListStr (tCons te tNil)) σ H (chars zt) := fun H1 e Q q =>
  h H1 e _ fun H2 e2 => ⟨zt, rfl, sz_of hz, fun l hl => q l _ (fresh_back e2 hl) (e2.trans (Ex.new hl)) upd_same⟩
theorem el_listL {a : Addr} {xs : List V} (h : Ev te σ H (.ref a)) (hx : SqL K H a xs) : EvL (tCB (fun xs H Q => ∃ p ys, xs = [.ref p] ∧ (SqL K H p ys ∨ SqT K H p ys) ∧ ∀ l, H l = none → Q (.ref l) (upd H l (.lst ys))) (tCons te tNil)) σ H xs := fun H1 e Q q =>
  h H1 e _ fun H2 e2 => ⟨a, xs, rfl, .inl (ex_l (e.trans e2) hx), fun l hl => q l _ (fresh_back e2 hl) (e2.trans (Ex.new hl)) upd_same⟩
/-- tuple(list) -/
theorem eu_tupL {a : Addr} {xs : List V} (h : Ev te σ H (.ref a)) (hx : SqL K H a xs) : EvU (tCB (fun xs H Q => ∃ p ys, xs = [.ref p] ∧ ((SqL K H p ys ∧ ∀ l, H l = none → Q (.ref l) (upd H l (.tup ys))) ∨ (SqT K H p ys ∧ Q (.ref p) H))) (tCons te tNil)) σ H xs := fun H1 e Q q =>
  h H1 e _ fun H2 e2 => ⟨a, xs, rfl, .inl ⟨ex_l (e.trans e2) hx, fun l hl => q l _ (fresh_back e2 hl) (e2.trans (Ex.new hl)) upd_same⟩⟩
theorem el_listRg {i j : Int} (ha : Ev ta σ H (.int i)) (hb : Ev tb σ H (.int j)) (h0 : 0 ≤ i) (h1 : i ≤ 100000) (h2 : 0 ≤ j) (h3 : j ≤ 100000) : EvL (tLstRg (tRg2 ta tb)) σ H (rgV i j) := fun H1 e Q q =>
  ha H1 e _ fun H2 e2 => hb H2 (e.trans e2) _ fun H3 e3 => ⟨i, j, rfl, rfl, RgOk.of_le h0 (by omega) (by omega) h2, fun l hl => q l _ (fresh_back (e2.trans e3) hl) ((e2.trans e3).trans (Ex.new hl)) upd_same⟩
theorem ev_slS {zt : Str} {tl th : TO} {lo hi : Option Int} (h : Ev te σ H (.str zt)) (h1 : EvO tl σ H lo) (h2 : EvO th σ H hi) (hz : zt.length ≤ 100000) : Ev (tSl rSlS te tl th) σ H (.str (cutS zt lo hi)) := fun H1 e _ q =>
  h H1 e _ fun H2 e2 => h1 H2 (e.trans e2) _ fun H3 e3 => h2 H3 ((e.trans e2).trans e3) _ fun H4 e4 => ⟨zt, rfl, sz_of hz, q H4 ((e2.trans e3).trans e4)⟩
/-- a list that stands and a new one, joined -/
theorem el_cat {a : Addr} {xs ys : List V} (ha : Ev ta σ H (.ref a)) (hx : H a = some (.lst xs)) (hb : EvL tb σ H ys) (hz : xs.length + ys.length ≤ 100000) : EvL (tOp rCat ta tb) σ H (xs ++ ys) := fun H1 e Q q =>
  ha H1 e _ fun H2 e2 => hb H2 (e.trans e2) _ fun b H3 hb3 e3 hy => ⟨a, b, xs, ys, rfl, rfl, e3 _ _ (e2 _ _ (e _ _ hx)), hy, sz_of hz, fun l hl => q l _ (fresh_back (e2.trans e3) hl) ((e2.trans e3).trans (Ex.new hl)) upd_same⟩
theorem el_catN {xs ys : List V} (ha : EvL ta σ H xs) (hb : EvL tb σ H ys) (hz : xs.length + ys.length ≤ 100000) : EvL (tOp rCat ta tb) σ H (xs ++ ys) := fun H1 e Q q =>
  ha H1 e _ fun a H2 ha2 e2 hx => hb H2 (e.trans e2) _ fun b H3 hb3 e3 hy => ⟨a, b, xs, ys, rfl, rfl, e3 _ _ hx, hy, sz_of hz, fun l hl => q l _ (fresh_back (e2.trans e3) hl) ((e2.trans e3).trans (Ex.new hl)) upd_same⟩
/-- xs.extend(a new list) -/
theorem s_extL {l : Addr} {xs ys : List V} (hl : H l = some (.lst xs)) (ha : Ev ta σ H (.ref l)) (h : EvL te σ H ys) (hz : xs.length + ys.length ≤ 100000) (k : ∀ p H1, H p = none → Ex H H1 → D.nx σ (upd H1 l (.lst (xs ++ ys)))) :
    tDrop (tBM K "list" rExtend ta (tCons te tNil)) D σ H := ha H (Ex.refl H) _ fun H1 e1 =>
  ⟨Or.inl ⟨rfl, xs, sq_of (e1 l _ hl)⟩, h H1 e1 _ fun p H2 hp e2 h2 => ⟨l, p, xs, ys, rfl, rfl, e2 l _ (e1 l _ hl), h2, sz_of hz, k p H2 (fresh_back e1 hp) (e1.trans e2)⟩⟩
theorem cut_lt {zt : Str} {b : Nat} : cutS zt none (some (b : Int)) = ⟨(zt.cps.toList.take b).toArray⟩ := by
  unfold cutS
  have e : zt.length = zt.cps.toList.length := by simp [Str.length]
  rw [HT.sIx_none, HT.sIx_nat, e]
  congr 2
  rw [List.drop_zero, Nat.sub_zero]
  by_cases h : b ≤ zt.cps.toList.length
  · rw [Nat.min_eq_left h]
  · rw [Nat.min_eq_right (by omega), List.take_of_length_le (Nat.le_refl _), List.take_of_length_le (by omega)]
theorem cut_ge {zt : Str} {a : Nat} : cutS zt (some (a : Int)) none = ⟨(zt.cps.toList.drop a).toArray⟩ := by
  unfold cutS
  have e : zt.length = zt.cps.toList.length := by simp [Str.length]
  rw [HT.sIx_none, HT.sIx_nat, e]
  congr 1
  by_cases h : a ≤ zt.cps.toList.length
  · rw [Nat.min_eq_left h, List.take_of_length_le (by rw [List.length_drop]; exact Nat.le_refl _)]
  · rw [Nat.min_eq_right (by omega), Nat.sub_self, List.take_zero, List.drop_of_length_le (by omega)]
theorem cut_in {zt : Str} {a b : Nat} : cutS zt (some (a : Int)) (some (b : Int)) = ⟨((zt.cps.toList.drop a).take (b - a)).toArray⟩ := by
  unfold cutS
  have e : zt.length = zt.cps.toList.length := by simp [Str.length]
  rw [HT.sIx_nat, HT.sIx_nat, e]
  congr 1
  by_cases h : a ≤ zt.cps.toList.length
  · rw [Nat.min_eq_left h]
    by_cases h2 : b ≤ zt.cps.toList.length
    · rw [Nat.min_eq_left h2]
    · rw [Nat.min_eq_right (by omega), List.take_of_length_le (by rw [List.length_drop]; exact Nat.le_refl _), List.take_of_length_le (by rw [List.length_drop]; omega)]
  · rw [Nat.min_eq_right (by omega : zt.cps.toList.length ≤ a), List.drop_of_length_le (Nat.le_refl _), List.drop_of_length_le (by omega)]
    simp
/-- a call that hands back a new tuple -/
def SpU (sp : Sp) (vs : List V) (H : Hp) (xs : List V) : Prop := ∀ H1, Ex H H1 → ∀ Q : VK, (∀ p H2, H1 p = none → Ex H1 H2 → H2 p = some (.tup xs) → Q (.ref p) H2) → ∀ E : XK, sp vs H1 Q E
theorem eu_call {sp : Sp} {dvs vs xs : List V} {E : XK} {ta : TA} (h : EvA ta σ H vs) (hs : SpU sp (vs ++ dvs) H xs) : EvU (tCall sp dvs E ta) σ H xs := fun H1 e Q q =>
  h H1 e _ fun H2 e2 => hs H2 (e.trans e2) Q (fun p H3 hp e3 h3 => q p H3 (fresh_back e2 hp) (e2.trans e3) h3) E
/-- a call of a new tuple, of a new list -/
theorem el_call1U {sp : Sp} {E : XK} {xs ys : List V} (h : EvU te σ H xs) (hs : ∀ p H1, H1 p = some (.tup xs) → Ex H H1 → SpL sp [.ref p] H1 ys) : EvL (tCall sp [] E (tCons te tNil)) σ H ys := fun H1 e Q q =>
  h H1 e _ fun p H2 hp e2 h2 => hs p H2 h2 (e.trans e2) H2 (Ex.refl _) Q (fun r H3 hr e3 h3 => q r H3 (fresh_back e2 hr) (e2.trans e3) h3) E
theorem ev_call1L {sp : Sp} {E : XK} {xs : List V} (h : EvL te σ H xs) (hs : ∀ p H1, H1 p = some (.lst xs) → Ex H H1 → SpV sp [.ref p] H1 z) : Ev (tCall sp [] E (tCons te tNil)) σ H z := fun H1 e Q q =>
  h H1 e _ fun p H2 hp e2 h2 => hs p H2 h2 (e.trans e2) H2 (Ex.refl _) Q (fun H3 e3 => q H3 (e2.trans e3)) E
/-- a slice of a drawn text -/
theorem evp_slS {zt : Str} {tl th : TO} {lo hi : Option Int} {p : Addr} {s s1 : Int × Int} (h : EvP te σ G p s (.str zt) s1) (h1 : EvO tl σ G lo) (h2 : EvO th σ G hi) (hz : zt.length ≤ 100000) : EvP (tSl rSlS te tl th) σ G p s (.str (cutS zt lo hi)) s1 := fun H k _ q =>
  h H k _ fun H2 e2 g2 => h1 H2 (k.next e2 g2).ex _ fun H3 e3 => h2 H3 ((k.next e2 g2).ex.trans e3) _ fun H4 e4 => ⟨zt, rfl, sz_of hz, q H4 (hx_trans e2 (hx_of (e3.trans e4))) (e4 _ _ (e3 _ _ g2))⟩
/-- if c: x = e, what x is behind it by a word -/
theorem q_ifAsgM {M : V → Hp → Prop} {b : Bool} {i : Nat} (h : EvT t σ H b) (h1 : b = true → ∀ H1, Ex H H1 → ∀ Q : VK, (∀ v H2, M v H2 → Q v H2) → te σ H1 Q) (h2 : b = false → ∀ H1, Ex H H1 → ∃ v, σ.set i (some v) = σ ∧ M v H1) (k : ∀ v H2, M v H2 → tz D (σ.set i (some v)) H2) :
    tSeq (tIfS t (tAsg te (gName i)) tNext) tz D σ H := q_when h (fun hb H1 e1 => h1 hb H1 e1 _ fun v H2 m => k v H2 m) (fun hb H1 e1 => by
  obtain ⟨v, hv, m⟩ := h2 hb H1 e1
  have := k v H1 m
  rw [hv] at this
  exact this)
theorem qp_ifAsgM {M : V → Hp → Prop} {b : Bool} {i : Nat} {p : Addr} {s s1 : Int × Int} (K0 : Kn G p s H) (h : EvTP t σ G p s b s1) (h1 : b = true → ∀ H1, Kn G p s1 H1 → Ex (hide p H) H1 → ∀ Q : VK, (∀ v H2, M v H2 → Q v H2) → te σ H1 Q) (h2 : b = false → ∀ H1, Kn G p s1 H1 → Ex (hide p H) H1 → ∃ v, σ.set i (some v) = σ ∧ M v H1) (k : ∀ v H2, M v H2 → tz D (σ.set i (some v)) H2) :
    tSeq (tIfS t (tAsg te (gName i)) tNext) tz D σ H := qp_when K0 h (fun hb H1 K1 e1 => h1 hb H1 K1 e1 _ fun v H2 m => k v H2 m) (fun hb H1 K1 e1 => by
  obtain ⟨v, hv, m⟩ := h2 hb H1 K1 e1
  have := k v H1 m
  rw [hv] at this
  exact this)
end

/-! ### own classes -/
/-- x in o, o an instance whose class has its own __contains__ -/
def rInOwn (C : Addr) (sp : Sp) (E : XK) : R2 := fun x y H Q => ∃ a dx fs, y = .ref a ∧ H a = some (.ins C dx fs) ∧ sp [.ref a, x] H (fun v H' => ∃ b, v = .bl b ∧ Q (.bl b) H') E
theorem contains_own {X : Cx} {CX : CXT} {C f : Addr} {fd : FuncData} {ps : List Str} {k : Nat} {sp : Sp} {E : XK} (hs : PySem.W.findIn X.K (.ref C) "__contains__" = some (some (.ref f))) (hf : PySem.W.typeIn X.K (.ref f) = some (.type "function"))
    (F : FnOk X.prog X.w X.K X.mg X.base CX k f fd ps sp) (hr : Room k X.A) (hb : Binds X.K fd ps []) (hx : Passes CX X E) {pins : List (Addr × Obj)} {s : Shared} {σ : L2.St} {H : Hp} {x : V} {v : Value} {a dx : Addr} {fs : List (Str × V)} {Q : Bool → Hp → Prop}
    (I : Inv X pins σ H s) (rx : RelV x v) (ha : H a = some (.ins C dx fs)) (h : sp [.ref a, x] H (fun v H' => ∃ b, v = .bl b ∧ Q b H') E) :
    wpAny (model X.prog X.w) X.A (contains (.ref a) v) (TP X pins σ Q) X.xe s := by
  obtain ⟨mA, J, _⟩ := ins_get I.hok ha
  obtain ⟨od, J, _⟩ := J.look
  unfold contains
  refine wpAny_holding ?_
  show wpAny _ _ (specialOf (.ref a) "__contains__" >>= fun r => _) _ _ s
  have hsp : ∀ {β : Type} {t : Option Value → Sem β} {Q' : β → Shared → Prop}, wpAny (model X.prog X.w) X.A (t (some (.ref f))) Q' X.xe s → wpAny (model X.prog X.w) X.A (specialOf (.ref a) "__contains__" >>= t) Q' X.xe s := fun z =>
    wpAny_bind (wpAny_bind (J.type.here ((PySem.W.looks_findIn I.kIn hs).here z)))
  refine hsp ?_
  show wpAny _ _ (callSpecialUnlessNone? (.ref a) "__contains__" [v] _ >>= fun r => _) _ _ s
  refine wpAny_bind ?_
  unfold callSpecialUnlessNone?
  refine hsp ?_
  show wpAny _ _ (holding [.ref a, v] (bindSpecial (.ref f) (.ref a) >>= fun p => _)) _ _ s
  refine wpAny_holding (wpAny_bind ((PySem.W.bind_fn I.kIn _ hf).here ?_))
  show wpAny _ _ (call (.ref f) [.ref a, v] >>= fun r => pure (some r)) _ _ s
  refine wpAny_bind (wpAny_mono (run_fn (us := [.ref a, v]) F hr hb .nil hx I (.cons (show RelV (.ref a) (Value.ref a) from rfl) (.cons rx .nil)) h) (fun r s' q => ?_) fun _ _ z => z)
  obtain ⟨z, H', I', rz, b, rfl, q⟩ := q
  cases (show r = Value.bool b from rz)
  refine wpAny_pure ?_
  exact wpAny_truthy_bool ⟨H', I', q⟩
theorem op_inOwn {X : Cx} {CX : CXT} {C f : Addr} {fd : FuncData} {ps : List Str} {k : Nat} {sp : Sp} {E : XK} (hs : PySem.W.findIn X.K (.ref C) "__contains__" = some (some (.ref f))) (hf : PySem.W.typeIn X.K (.ref f) = some (.type "function"))
    (F : FnOk X.prog X.w X.K X.mg X.base CX k f fd ps sp) (hr : Room k X.A) (hb : Binds X.K fd ps []) (hx : Passes CX X E) : OpR X (compareOp .In) (rInOwn C sp E) := by
  intro pins s σ H x y v u Q I rx ry h
  obtain ⟨a, dx, fs, rfl, ha, hsp⟩ := h
  cases (show u = Value.ref a from ry)
  show wpAny _ _ (contains (.ref a) v >>= fun b => (pure (Value.bool b) : Sem Value)) _ _ s
  refine wpAny_bind (wpAny_mono (contains_own (Q := fun b H' => Q (.bl b) H') hs hf F hr hb hx I rx ha hsp) (fun b s' q => ?_) fun _ _ z => z)
  obtain ⟨H', I', q⟩ := q
  exact wpAny_pure ⟨.bl b, H', I', rfl, q⟩
/-- a method; a special method; an __init__; an __init__ with a star -/
def DfM (P : Program) (w : World) (K : PySem.W.Frag) (mg : Str → Option Value) (base : Heap) (C : Addr) (m : Str) (ps : List Str) (k : Nat) (sp : Sp) : Prop :=
  ∃ (f : Addr) (fd : FuncData), Meth K C m f ∧ Binds K fd ps [] ∧ FnOk P w K mg base CX0 k f fd ps sp
def DfC (P : Program) (w : World) (K : PySem.W.Frag) (mg : Str → Option Value) (base : Heap) (C : Addr) (m : Str) (ps : List Str) (k : Nat) (sp : Sp) : Prop :=
  ∃ (f : Addr) (fd : FuncData), PySem.W.findIn K (.ref C) m = some (some (.ref f)) ∧ PySem.W.typeIn K (.ref f) = some (.type "function") ∧ Binds K fd ps [] ∧ FnOk P w K mg base CX0 k f fd ps sp
def DfI (P : Program) (w : World) (K : PySem.W.Frag) (mg : Str → Option Value) (base : Heap) (x : Str) (C : Addr) (ps : List Str) (k : Nat) (sp : Sp) : Prop :=
  ∃ (f : Addr) (fd : FuncData), Mk K C f ∧ mg x = some (.ref C) ∧ Binds K fd ps [] ∧ FnOk P w K mg base CX0 k f fd ps sp
def DfS (P : Program) (w : World) (K : PySem.W.Frag) (mg : Str → Option Value) (base : Heap) (x : Str) (C : Addr) (k : Nat) (sp : Sp) : Prop :=
  ∃ f : Addr, Mk K C f ∧ mg x = some (.ref C) ∧ FnR P w K mg base CX0 k f sp
section
variable {X : Cx} {k : Nat} {ps : List Str} {sp : Sp} {C : Addr} {x m : Str} {p pos apos : Pos} {o e : Expr} {es : List Expr} {t : TA} {ta : TE}
theorem pe_mk (D : DfI X.prog X.w X.K X.mg X.base x C ps k sp) (hr : Room (k + 1) X.A) (hg : Gl X x) (ha : PA X (e :: es) t) (hdb : (x == ("__debug__" : Str)) = false := by decide)
    (he : starEach (e :: es) X.env = (false, eval e X.env) :: starEach es X.env := by rfl) (hpl : (backTo pos (starEach es X.env)).any (·.1) = false := by rfl) : PE X (.Call (.Name x p) (e :: es) [] pos) (tMake C sp [] E0 t) := by
  obtain ⟨f, fd, M, hm, hb, F⟩ := D
  exact pe_make M F hr hg hm hb .nil pass0 ha hdb he hpl
theorem pe_mkS (D : DfS X.prog X.w X.K X.mg X.base x C k sp) (hr : Room (k + 1) X.A) (hg : Gl X x) (ha : PA X (e :: es) t) (hdb : (x == ("__debug__" : Str)) = false := by decide)
    (he : starEach (e :: es) X.env = (false, eval e X.env) :: starEach es X.env := by rfl) (hpl : (backTo pos (starEach es X.env)).any (·.1) = false := by rfl) : PE X (.Call (.Name x p) (e :: es) [] pos) (tMakeR C sp E0 t) := by
  obtain ⟨f, M, hm, F⟩ := D
  exact pe_makeR M F hr hg hm pass0 ha hdb he hpl
theorem pe_mth0 {pl : Sem Bool} (c : Cls X.K C) (D : DfM X.prog X.w X.K X.mg X.base C m ps k sp) (hr : Room k X.A) (he : PE X o ta)
    (ht : eval (.Call (.Attribute o m apos) [] [] pos) X.env = (do let ov ← eval o X.env; standAt apos.atName; let (f, first) ← holding [ov] (getMethod ov m pl); callWith pos f first (backTo pos (starEach [] X.env)) (backToKw pos (keywordEach [] X.env))) := by rfl) :
    PE X (.Call (.Attribute o m apos) [] [] pos) (tMeth C m sp [] E0 ta tNil) := by
  obtain ⟨f, fd, hm, hb, F⟩ := D
  exact pe_meth0 he c hm F hr hb .nil pass0 ht
theorem pe_mth {pl : Sem Bool} (c : Cls X.K C) (D : DfM X.prog X.w X.K X.mg X.base C m ps k sp) (hr : Room k X.A) (he : PE X o ta) (ha : PA X (e :: es) t)
    (hst : starEach (e :: es) X.env = (false, eval e X.env) :: starEach es X.env := by rfl) (hpl : (backTo pos (starEach es X.env)).any (·.1) = false := by rfl)
    (ht : eval (.Call (.Attribute o m apos) (e :: es) [] pos) X.env = (do let ov ← eval o X.env; standAt apos.atName; let (f, first) ← holding [ov] (getMethod ov m pl); callWith pos f first (backTo pos (starEach (e :: es) X.env)) (backToKw pos (keywordEach [] X.env))) := by rfl) :
    PE X (.Call (.Attribute o m apos) (e :: es) [] pos) (tMeth C m sp [] E0 ta t) := by
  obtain ⟨f, fd, hm, hb, F⟩ := D
  exact pe_meth he c hm F hr hb .nil pass0 ha hst hpl ht
theorem op_in_df (D : DfC X.prog X.w X.K X.mg X.base C "__contains__" ps k sp) (hr : Room k X.A) : OpR X (compareOp .In) (rInOwn C sp E0) := by
  obtain ⟨f, fd, h1, h2, hb, F⟩ := D
  exact op_inOwn h1 h2 F hr hb pass0
end
end Kz
namespace Kz
open PySem PySem.Spec PyProof.Rows L2 Evl StX
/-! ### own exceptions: made and raised, passed on, caught, asked -/
/-- class C, named x, whose own __init__ keeps sp -/
structure XIn (K : PySem.W.Frag) (C : Addr) : Prop where
  o : OexC K C
  x : XfC K C
  h : (PySem.W.clsIn K C).isSome = true
  a : PySem.W.findIn K (.ref C) "__class__" = some (some (.builtin "object.__class__"))
  n : PySem.W.specialIn K (.builtin "object.__class__") "__get__" = some (some (.builtin "getset_descriptor.__get__"))
  t : PySem.W.takesIn K (.builtin "object.__class__") = some true
  m : PySem.W.mroIn K C (.type "object") = some true
  s : PySem.W.exmOne K (.ref C) (.ref C) = some true
def DfX (P : Program) (w : World) (K : PySem.W.Frag) (mg : Str → Option Value) (base : Heap) (x : Str) (C : Addr) (ps : List Str) (k : Nat) (sp : Sp) : Prop :=
  ∃ (f : Addr) (fd : FuncData), OexC K C ∧ PySem.W.findIn K (.ref C) "__init__" = some (some (.ref f)) ∧ PySem.W.typeIn K (.ref f) = some (.type "function") ∧ mg x = some (.ref C) ∧ Binds K fd ps [] ∧ FnOk P w K mg base CX0 k f fd ps sp
/-- an own class whose starred __init__ may raise -/
def DfSX (P : Program) (w : World) (K : PySem.W.Frag) (mg : Str → Option Value) (base : Heap) (x : Str) (C : Addr) (k : Nat) (sp : Sp) : Prop :=
  ∃ f : Addr, Mk K C f ∧ mg x = some (.ref C) ∧ FnR P w K mg base (L2.CX P w) k f sp
/-- a def that may raise -/
def DfR (P : Program) (w : World) (K : PySem.W.Frag) (mg : Str → Option Value) (base : Heap) (x : Str) (ps : List Str) (k : Nat) (sp : Sp) : Prop :=
  ∃ (f : Addr) (fd : FuncData), mg x = some (.ref f) ∧ PySem.W.keepIn K (.ref f) = true ∧ Binds K fd ps [] ∧ FnOk P w K mg base (L2.CX P w) k f fd ps sp
section
variable {X : Cx} {k : Nat} {ps : List Str} {sp : Sp} {C : Addr} {x : Str} {p pos pos2 : Pos} {e : Expr} {es : List Expr} {t : TA} {W : WX}
theorem ps_raiseX (D : DfX X.prog X.w X.K X.mg X.base x C ps k sp) (hr : Room (k + 1) X.A) (hg : Gl X x) (hc : X.calm = true) (tk : Takes X W) (ha : PA X (e :: es) t) (hdb : (x == ("__debug__" : Str)) = false := by decide)
    (he : starEach (e :: es) X.env = (false, eval e X.env) :: starEach es X.env := by rfl) (hpl : (backTo pos (starEach es X.env)).any (·.1) = false := by rfl) :
    PS X (.Raise (some (.Call (.Name x p) (e :: es) [] pos)) none pos2) (fun _ σ H => tMkO C sp [] t σ H fun cls d H' => W cls d σ H') := by
  obtain ⟨f, fd, h1, h2, h3, h4, h5, F⟩ := D
  exact ps_raise hc tk (pmk_oex h1 h2 h3 F hr h5 .nil pass0 hg h4 ha hdb he hpl)
theorem pe_mkSX {E : XK} (D : DfSX X.prog X.w X.K X.mg X.base x C k sp) (hr : Room (k + 1) X.A) (hg : Gl X x) (tk : Takes X (fun cls d _ H => E cls d H)) (ha : PA X (e :: es) t) (hdb : (x == ("__debug__" : Str)) = false := by decide)
    (he : starEach (e :: es) X.env = (false, eval e X.env) :: starEach es X.env := by rfl) (hpl : (backTo pos (starEach es X.env)).any (·.1) = false := by rfl) : PE X (.Call (.Name x p) (e :: es) [] pos) (tMakeR C sp E t) := by
  obtain ⟨f, M, hm, F⟩ := D
  exact pe_makeR M F hr hg hm (passes_call tk fun _ _ _ _ h => h) ha hdb he hpl
theorem pe_mkSX0 {E : XK} (D : DfSX X.prog X.w X.K X.mg X.base x C k sp) (hr : Room (k + 1) X.A) (hg : Gl X x) (tk : Takes X (fun cls d _ H => E cls d H)) (hdb : (x == ("__debug__" : Str)) = false := by decide) :
    PE X (.Call (.Name x p) [] [] pos) (tMakeR C sp E tNil) := by
  obtain ⟨f, M, hm, F⟩ := D
  refine ⟨fun pins s σ H Q I h => wpAny_Call_Name_kw (ld_glob I hg hm (PySem.W.callWith_K0 I.kIn M.kp (run_makeR (us := []) M F hr (passes_call tk fun _ _ _ _ h => h) I .nil h)) hdb)⟩
theorem pe_dfR (D : DfR X.prog X.w X.K X.mg X.base x ps k sp) (hr : Room k X.A) (hg : Gl X x) (tk : Takes X W) (ha : PA X (e :: es) t) (hdb : (x == ("__debug__" : Str)) = false := by decide)
    (he : starEach (e :: es) X.env = (false, eval e X.env) :: starEach es X.env := by rfl) (hpl : (backTo pos (starEach es X.env)).any (·.1) = false := by rfl) : PE X (.Call (.Name x p) (e :: es) [] pos) (tCallS sp (WE W) t) := by
  obtain ⟨f, fd, hm, hk, hb, F⟩ := D
  exact pe_callS F hr hg hm hk hb (fun σ => passAt tk σ) ha hdb he hpl
end
/-- an __init__ that keeps its one argument at the field f -/
def spXI (C : Addr) (f : Str) : Sp := fun vs H Q _ => ∃ (a : Addr) (v : V), vs = [.ref a, v] ∧ H a = some (exo a C none) ∧ ∀ dx, H dx = none → dx ≠ a → Q .non (upd (upd H dx (exd dx [(f, v)])) a (exo a C (some dx)))
theorem mkX {C : Addr} {f : Str} {σ : L2.St} {H : Hp} {te : TE} {v : V} {Q : XK} (h : Ev te σ H v) (q : ∀ d H1, H d = none → Ex H H1 → H1 d = some (.xd [(f, v)]) → Q (.ref C) (some d) H1) : tMkO C (spXI C f) [] (tCons te tNil) σ H Q :=
  h H (Ex.refl _) _ fun H1 e1 => ⟨by simp, fun a ha => ⟨a, v, rfl, upd_same, fun dx hdx hne => by
    have hd1 : H1 dx = none := by
      rw [upd_ne hne] at hdx
      exact hdx
    refine ⟨rfl, dx, _, upd_same, by rw [upd_ne hne, upd_same], hd1, q dx _ (fresh_back e1 hd1) (e1.trans fun b o hb => ?_) upd_same⟩
    have nb : b ≠ dx := ne_of_none hb hd1
    have na : b ≠ a := ne_of_none hb ha
    rw [upd_ne nb, del_ne na, upd_ne na, upd_ne nb, upd_ne na]
    exact hb⟩⟩

/-! a def that is called with the caught exception -/
open L2H in
structure FnE (P : Program) (w : World) (K : PySem.W.Frag) (mg : Str → Option Value) (base : Heap) (k : Nat) (f : Addr) (fd : FuncData) (ps : List Str) (sp : Addr → Value → Option Addr → Sp) : Prop where
  len : ∀ a c d vs H Q E, sp a c d vs H Q E → vs.length = ps.length
  run : ∀ (a : Addr) (oe : Obj) (c : Value) (d : Option Addr), Zc c d oe → (∃ vs, oe.data = .fields vs) → ∀ (A : Around) (outer : List Env) (s : Shared) (H : Hp), RoomH k A → PinOk outer H s (a, oe) → Env0 P w K mg base A outer s H →
    ∀ (args : Args) (us : List Value) (vs : List V) (Q : VK) (E : XK), BindsTo s fd args (ps.zip us) → Vals vs us → sp a c d vs H Q E → codeAny (model P w) A (.call (.ref f) args) (CR CX0 outer P w H s Q E) s
def DfE (P : Program) (w : World) (K : PySem.W.Frag) (mg : Str → Option Value) (base : Heap) (x : Str) (ps : List Str) (k : Nat) (sp : Addr → Value → Option Addr → Sp) : Prop :=
  ∃ (f : Addr) (fd : FuncData), mg x = some (.ref f) ∧ PySem.W.keepIn K (.ref f) = true ∧ Binds K fd ps [] ∧ FnE P w K mg base k f fd ps sp
open L2H in
theorem Fun.okE {P : Program} {w : World} {K : PySem.W.Frag} {mg : Str → Option Value} {base : Heap} {x qual : Str} {st : Stmt} {f : Addr} {fd : FuncData} {N ps : List Str} {k : Nat} {sp : Addr → Value → Option Addr → Sp}
    (F : Fun K x qual st f fd) (S : FnScope N ps (defScope st)) (len : ∀ a c d vs H Q E, sp a c d vs H Q E → vs.length = ps.length)
    (walk : ∀ (a : Addr) (oe : Obj) (c : Value) (d : Option Addr), Zc c d oe → (∃ vs, oe.data = .fields vs) → ∀ (cdv : Value) (A : Around) (outer : List Env) (s : Shared) (H : Hp) (vs : List V) (Q : VK) (E : XK),
      RoomH k (A.deeper (envOfC qual (defScope st) s.heap.objs.size f cdv)) → sp a c d vs H Q E →
      ∃ t, PSs (cxH CX0 P w K mg base N qual (defScope st) f cdv A outer s H E (a, oe)) (defBody st) t ∧ t { nx := fun _ H' => Q .non H', rt := Q } (L2.start N vs) H) :
    FnE P w K mg base (k + 1) f fd ps sp := by
  obtain ⟨oc, od, kV, doc, pm, an, cdv, ct, osl, rfl, lk, hcd⟩ := F.ex
  refine ⟨len, ?_⟩
  intro a oe c d hz hf A outer s H hr pin e0 args us vs Q E hb r h
  have inn : K.In s.heap := e0.mod.kin.keeps fun b o z => (e0.bs b o z).1
  have nol : s.heap.NoLimit := e0.mod.nolimit.keeps fun b o z => (e0.bs b o z).1
  refine codeAny_call_function hr.depth (inn _ _ lk) rfl S.co S.gen rfl (PySem.W.codeRec_of inn hcd) (hb _ _ _ _ (wpAny_newFunctionEnv_cells S.kind ?_ ?_))
  · rintro ⟨n, v⟩ hy
    exact (S.par n (List.of_mem_zip hy).1).imp id fun q => ⟨q, PySem.W.cellsFrom_some _ _ _ (.inl q)⟩
  · rintro env rfl s1 ic
    refine ⟨nol.keeps ic.toInCall.keep, codeAny_func ?_⟩
    obtain ⟨t, ht, hq⟩ := walk a oe c d hz hf cdv A outer s H vs Q E (hr.deeper _) h
    have J0 := inv_startH (CX := CX0) (P := P) (w := w) (mg := mg) (base := base) (f := f) (E := E) S pin e0 (len _ _ _ _ _ _ _ h) r ic
    refine wpAny_mono (ht.run [] s1 _ H _ J0 hq) (fun fl s' z => ?_) fun er s' z => z
    match fl, z with
    | .ret u, z =>
      obtain ⟨v, σ', H', J, rv, q⟩ := z
      exact ⟨v, H', J.os, J.bare, J.base, J.hok, rv, q⟩
    | .next, z =>
      obtain ⟨σ', H', J, q⟩ := z
      exact ⟨V.non, H', J.os, J.bare, J.base, J.hok, rfl, q⟩
    | .brk, z => exact z.elim fun _ z => z.elim fun _ z => z.2.elim
    | .cont, z => exact z.elim fun _ z => z.elim fun _ z => z.2.elim
open L2H in
theorem pe_dfE {X : Cx} {k : Nat} {ps : List Str} {sp : Addr → Value → Option Addr → Sp} {x : Str} {p pos : Pos} {e : Expr} {es : List Expr} {t : TA} {a : Addr} {oe : Obj} {c : Value} {d : Option Addr} (D : DfE X.prog X.w X.K X.mg X.base x ps k sp) (hr : RoomH k X.A) (hg : Gl X x)
    (hp : (a, oe) ∈ X.pn) (hz : Zc c d oe) (hf : ∃ vs, oe.data = .fields vs) (ha : PA X (e :: es) t) (hdb : (x == ("__debug__" : Str)) = false := by decide)
    (he : starEach (e :: es) X.env = (false, eval e X.env) :: starEach es X.env := by rfl) (hpl : (backTo pos (starEach es X.env)).any (·.1) = false := by rfl) :
    PE X (.Call (.Name x p) (e :: es) [] pos) (tCall (sp a c d) [] E0 t) := by
  obtain ⟨f, fd, hm, hk, hb, F⟩ := D
  refine ⟨fun pins s σ H Q I h => wpAny_Call_Name_kw (ld_glob I hg hm ?_ hdb)⟩
  refine PySem.W.callWith_K (h₀ := X.base) I.ok.mod.kin hk (thn (ha.run pos pins s σ H _ I h) ?_) he hpl
  rintro us s1 ⟨vs, H1, J, r, q⟩
  refine ⟨J.kIn, ?_⟩
  rw [List.append_nil] at q
  have b := hb s1 us J.kIn (by rw [List.append_nil, ← r.length]; exact F.len _ _ _ _ _ _ _ q)
  rw [List.append_nil] at b
  obtain ⟨g1, g2, g3, g4, g5⟩ := J.pin (a, oe) (List.mem_append_left _ hp)
  refine wpAny_call (codeAny_mono (F.run a oe c d hz hf X.A X.stack s1 H1 hr ⟨g1, g2, fun hm => (List.mem_cons.mp (J.stkSub a hm)).elim g3 g4, g5⟩ J.env0 ⟨us, []⟩ us vs Q E0 b r q) fun z s' hq => ?_)
  match z, hq with
  | .error er, hq => exact hq.elim
  | .ok (.ret u), hq => exact J.after hq
  | .ok .next, hq => exact hq.elim
  | .ok .brk, hq => exact hq.elim
  | .ok .cont, hq => exact hq.elim
open L2H in
theorem roomS {X : Cx} {k : Nat} {a : Addr} {pn : List (Addr × Obj)} (hr : Room k X.A) : RoomH k (X.suite a pn).A := ⟨hr.dp, hr.un⟩
/-- isinstance(e, c), isinstance(e, (c1, ..)) of the exception that is held -/
def rXo (K : PySem.W.Frag) (a : Addr) (cls : Value) (d : Option Addr) : List V → Hp → VK → Prop := fun xs H Q => ∃ (D dd : Addr) (fs : List (Str × V)), cls = .ref D ∧ d = some dd ∧ H dd = some (.xd fs) ∧ XIn K D ∧
  ((∃ (c : V) (u : Value) (b : Bool), xs = [.ref a, c] ∧ ClsV c u ∧ PySem.W.kitOne K cls u = some b ∧ Q (.bl b) H) ∨
   (∃ (tp : Addr) (cs : List V) (us : List Value) (b : Bool), xs = [.ref a, .ref tp] ∧ H tp = some (.tup cs) ∧ Paired ClsV cs us ∧ PySem.W.kitAny K cls us = some b ∧ Q (.bl b) H))
theorem call_isX {X : Cx} {a : Addr} {oe : Obj} {c : Value} {d : Option Addr} (hp : (a, oe) ∈ X.pn) (hz : Zc c d oe) (hf : ∃ vs, oe.data = .fields vs) : CallR X (.builtin "isinstance") (rXo X.K a c d) := by
  intro pins s σ H xs us Q I r h
  obtain ⟨D, dd, fs, rfl, rfl, hd, T, h⟩ := h
  obtain ⟨g1, _⟩ := I.pin (a, oe) (List.mem_append_left _ hp)
  obtain ⟨mA, hns, _⟩ := (show ObjOk X.prog X.w H s.heap dd (.xd fs) from I.hok dd _ hd)
  obtain ⟨od, ho, _⟩ := lookIn_ns hns
  have J : PySem.W.InstAt s.heap a oe D (some od) := ⟨g1, hz.1, by
    obtain ⟨vs, e⟩ := hf
    unfold PySem.W.notCls
    rw [e] <;> rfl, by rw [hz.2]; exact ho⟩
  have Z := PySem.W.kitx_exc (x := a) (ox := oe) (od := some od) T.h T.x.ga T.x.gg T.x.exC T.a T.n T.t T.m
  rcases h with ⟨cc, u, b, rfl, k, e, q⟩ | ⟨tp, cs, ws, b, rfl, hT, k, e, q⟩
  · obtain ⟨u1, u2, rfl, r1, r2⟩ := vals2 r
    cases (show u1 = Value.ref a from r1)
    cases k.eq r2
    exact PySem.W.kia_one Z I.kIn J e (fun z => nomatch z) fun tk => ⟨.bl b, H, I.tok tk, rfl, q⟩
  · obtain ⟨u1, u2, rfl, r1, r2⟩ := vals2 r
    cases (show u1 = Value.ref a from r1)
    cases (show u2 = Value.ref tp from r2)
    obtain ⟨_, its, rv, o, h1, h2, n, h3⟩ := (show ObjOk X.prog X.w H s.heap tp (.tup cs) from I.hok tp _ hT)
    cases ClsV.all k rv
    obtain ⟨oc, od2, dt, sl⟩ := o
    simp only at h2 h3
    subst h2 h3
    exact PySem.W.kia_tup Z I.kIn J h1 e (fun z => nomatch z) fun tk => ⟨.bl b, H, I.tok tk, rfl, q⟩
theorem ev_xoT {K : PySem.W.Frag} {σ : L2.St} {H : Hp} {i : Nat} {a D dd : Addr} {fs : List (Str × V)} {cs : List V} {us : List Value} {b : Bool} {tb : TE} (T : XIn K D) (hi : σ[i]? = some (some (.ref a))) (hh : H dd = some (.xd fs)) (hb : EvU tb σ H cs) (hp : Paired ClsV cs us) (hk : PySem.W.kitAny K (.ref D) us = some b) :
    Ev (tCB (rXo K a (.ref D) (some dd)) (tCons (tVar i) (tCons tb tNil))) σ H (.bl b) := fun H1 e Q q =>
  ⟨_, hi, hb H1 e _ fun p H2 hp2 e2 h2 => ⟨D, dd, fs, rfl, rfl, e2 _ _ (e _ _ hh), T, .inr ⟨p, cs, us, b, rfl, h2, hp, hk, q H2 e2⟩⟩⟩
theorem ev_xo1 {K : PySem.W.Frag} {σ : L2.St} {H : Hp} {i : Nat} {a D dd : Addr} {fs : List (Str × V)} {c : V} {u : Value} {b : Bool} {tb : TE} (T : XIn K D) (hi : σ[i]? = some (some (.ref a))) (hh : H dd = some (.xd fs)) (hb : Ev tb σ H c) (hp : ClsV c u) (hk : PySem.W.kitOne K (.ref D) u = some b) :
    Ev (tCB (rXo K a (.ref D) (some dd)) (tCons (tVar i) (tCons tb tNil))) σ H (.bl b) := fun H1 e Q q =>
  ⟨_, hi, hb H1 e _ fun H2 e2 => ⟨D, dd, fs, rfl, rfl, e2 _ _ (e _ _ hh), T, .inl ⟨c, u, b, rfl, hp, hk, q H2 e2⟩⟩⟩
theorem ev_xf {σ : L2.St} {H : Hp} {i : Nat} {a C dd : Addr} {fs : List (Str × V)} {f : Str} {v : V} (hi : σ[i]? = some (some (.ref a))) (hh : H dd = some (.xd fs)) (hl : fs.lookup f = some v) : Ev (tXf a (.ref C) (some dd) C f (tVar i)) σ H v := fun H1 e Q q =>
  ⟨_, hi, rfl, rfl, dd, fs, v, rfl, e _ _ hh, hl, q H1 (Ex.refl _)⟩
end Kz
set_option Elab.async false
set_option linter.all false
set_option maxRecDepth 100000
set_option maxHeartbeats 4000000
namespace Q
open PySem PySem.Spec PyProof.Rows L2 Evl StX Kz
def topS (i : Nat) : Stmt := PySem.Challenge.pw_gluedlines_k02_forms_made_or_refused.main.body.getD i (.Pass ⟨0, 0, 0, 0⟩)

abbrev s_is_line : Stmt := topS 5
theorem sc_is_line : FnScope ["thing", "sign"] ["thing"] (defScope s_is_line) := ⟨rfl, rfl, rfl, by decide +kernel, rfl, by decide +kernel, by decide +kernel⟩
abbrev s_cells_of : Stmt := topS 11
theorem sc_cells_of : FnScope ["parts", "cells", "part"] ["parts"] (defScope s_cells_of) := ⟨rfl, rfl, rfl, by decide +kernel, rfl, by decide +kernel, by decide +kernel⟩
abbrev s_NoForm___init__ : Stmt := inClass (topS 19) 0
theorem sc_NoForm___init__ : FnScope ["self", "at"] ["self", "at"] (defScope s_NoForm___init__) := ⟨rfl, rfl, rfl, by decide +kernel, rfl, by decide +kernel, by decide +kernel⟩
abbrev s_Form___init__ : Stmt := inClass (topS 36) 3
theorem sc_Form___init__ : FnScope ["self", "parts", "at"] ["self", "parts"] (defScope s_Form___init__) := ⟨rfl, rfl, rfl, by decide +kernel, rfl, by decide +kernel, by decide +kernel⟩
abbrev s_Form_parts : Stmt := inClass (topS 36) 4
theorem sc_Form_parts : FnScope ["self"] ["self"] (defScope s_Form_parts) := ⟨rfl, rfl, rfl, by decide +kernel, rfl, by decide +kernel, by decide +kernel⟩
abbrev s__is_allowed : Stmt := topS 39
theorem sc__is_allowed : FnScope ["parts", "at", "part"] ["parts", "at"] (defScope s__is_allowed) := ⟨rfl, rfl, rfl, by decide +kernel, rfl, by decide +kernel, by decide +kernel⟩
abbrev s__law_pool : Stmt := topS 42
theorem sc__law_pool : FnScope ["script", "k", "cell", "seed"] ["script", "k"] (defScope s__law_pool) := ⟨rfl, rfl, rfl, by decide +kernel, rfl, by decide +kernel, by decide +kernel⟩
abbrev s__law_take : Stmt := topS 43
theorem sc__law_take : FnScope ["pool", "many", "digit"] ["pool", "many"] (defScope s__law_take) := ⟨rfl, rfl, rfl, by decide +kernel, rfl, by decide +kernel, by decide +kernel⟩
abbrev s__law_all_signs : Stmt := topS 44
theorem sc__law_all_signs : FnScope [] [] (defScope s__law_all_signs) := ⟨rfl, rfl, rfl, by decide +kernel, rfl, by decide +kernel, by decide +kernel⟩
abbrev s__law_good : Stmt := topS 45
theorem sc__law_good : FnScope ["pool", "text", "k"] ["pool"] (defScope s__law_good) := ⟨rfl, rfl, rfl, by decide +kernel, rfl, by decide +kernel, by decide +kernel⟩
abbrev s__law_bad : Stmt := topS 46
theorem sc__law_bad : FnScope ["pool", "some"] ["pool"] (defScope s__law_bad) := ⟨rfl, rfl, rfl, by decide +kernel, rfl, by decide +kernel, by decide +kernel⟩
abbrev s__law_drawn : Stmt := topS 47
theorem sc__law_drawn : FnScope ["pool", "parts", "bad", "k", "kind"] ["pool"] (defScope s__law_drawn) := ⟨rfl, rfl, rfl, by decide +kernel, rfl, by decide +kernel, by decide +kernel⟩
abbrev s__law_is_fixed : Stmt := topS 48
theorem sc__law_is_fixed : FnScope ["part", "sign"] ["part"] (defScope s__law_is_fixed) := ⟨rfl, rfl, rfl, by decide +kernel, rfl, by decide +kernel, by decide +kernel⟩
abbrev s__law_first_bad : Stmt := topS 49
theorem sc__law_first_bad : FnScope ["parts", "k", "part", "free"] ["parts"] (defScope s__law_first_bad) := ⟨rfl, rfl, rfl, by decide +kernel, rfl, by decide +kernel, by decide +kernel⟩
abbrev s__law_made : Stmt := topS 50
theorem sc__law_made : FnScope ["parts"] ["parts"] (defScope s__law_made) := ⟨rfl, rfl, rfl, by decide +kernel, rfl, by decide +kernel, by decide +kernel⟩
abbrev s__law_other : Stmt := topS 51
theorem sc__law_other : FnScope ["e"] ["e"] (defScope s__law_other) := ⟨rfl, rfl, rfl, by decide +kernel, rfl, by decide +kernel, by decide +kernel⟩
abbrev s__law_right : Stmt := topS 52
theorem sc__law_right : FnScope ["parts", "due", "form", "e", "kept"] ["parts"] (defScope s__law_right) := ⟨rfl, rfl, rfl, by decide +kernel, rfl, by decide +kernel, by decide +kernel⟩
abbrev s_law : Stmt := topS 53
theorem sc_law : FnScope ["script", "k"] ["script"] (defScope s_law) := ⟨rfl, rfl, rfl, by decide +kernel, rfl, by decide +kernel, by decide +kernel⟩
structure Txt (K : PySem.W.Frag) (mg : Str → Option Value) (a_OPEN_PARTS : Addr) (C_Form : Addr) (C_GlueError : Addr) (C_NoChange : Addr) (C_NoCrew : Addr) (C_NoForm : Addr) (C_NoGrammar : Addr) (C_NoName : Addr) (C_NoOutput : Addr) (C_NoRow : Addr) (C_NoRows : Addr) (C_NoRule : Addr) (C_NoText : Addr) (C_NotEnough : Addr) (C_NotRight : Addr) (C_Pattern : Addr) : Prop where
  c_ANY_SIGNS : Cst mg "ANY_SIGNS" (.str (Str.ofString "<any>"))
  c_MOST_PARTS : Cst mg "MOST_PARTS" (.int 4)
  c_MOST_SIGNS : Cst mg "MOST_SIGNS" (.int 4)
  c_OPEN_PARTS : Cst mg "OPEN_PARTS" (.ref a_OPEN_PARTS)
  o_OPEN_PARTS : WT K a_OPEN_PARTS [V.str (Str.ofString "<digits>"), V.str (Str.ofString "<word>"), V.str (Str.ofString "<any>")]
  c_SIGNS : Cst mg "SIGNS" (.str (Str.ofString " #-.0123456789:>ABCDEFGHIJKLMNOPQRSTUVWXYZabcdefghijklmnopqrstuvwxyz"))
  n_ValueError : mg "ValueError" = none
  n_all : mg "all" = none
  n_bool : mg "bool" = none
  n_int : mg "int" = none
  n_isinstance : mg "isinstance" = none
  n_len : mg "len" = none
  n_list : mg "list" = none
  n_max : mg "max" = none
  n_min : mg "min" = none
  n_range : mg "range" = none
  n_str : mg "str" = none
  n_tuple : mg "tuple" = none
  k_Form : Cls K C_Form
  x_NoForm : XIn K C_NoForm
  m_NoForm : mg "NoForm" = some (.ref C_NoForm)
  f_NoForm_at : PySem.W.findIn K (.ref C_NoForm) "at" = some none
  q_a9 : PySem.W.kitAny K (.ref C_NoForm) [.ref C_NoChange, .ref C_NoCrew, .ref C_NoGrammar, .ref C_NoName, .ref C_NoOutput, .ref C_NoRow, .ref C_NoRows, .ref C_NoRule, .ref C_NoText] = some false
  q_a2 : PySem.W.kitAny K (.ref C_NoForm) [.ref C_NotEnough, .ref C_NotRight] = some false
  q_g : PySem.W.kitOne K (.ref C_NoForm) (.ref C_GlueError) = some true
  q_v : PySem.W.kitOne K (.ref C_NoForm) (.type "ValueError") = some true
  q_p : PySem.W.kitOne K (.ref C_Form) (.ref C_Pattern) = some true
  q_fa : PySem.W.findIn K (.ref C_Form) "__class__" = some (some (.builtin "object.__class__"))
  q_fm : PySem.W.mroIn K C_Form (.type "object") = some true
  q_rd : PySem.W.readsIn K C_Form (.type "type") = true
  q_rg : PySem.W.specialIn K (.ref C_Form) "__getattribute__" = some (some (.builtin "type.__getattribute__"))
  q_1 : ∃ t, PySem.W.findCls K (.ref C_Form) (.type "type") "DIGITS" = some (.val (.str (Str.ofString "<digits>") t))
  q_2 : ∃ t, PySem.W.findCls K (.ref C_Form) (.type "type") "WORD" = some (.val (.str (Str.ofString "<word>") t))
  q_3 : ∃ t, PySem.W.findCls K (.ref C_Form) (.type "type") "ANY" = some (.val (.str (Str.ofString "<any>") t))
  c_Form : Cst mg "Form" (.ref C_Form)
  c_GlueError : Cst mg "GlueError" (.ref C_GlueError)
  c_NoChange : Cst mg "NoChange" (.ref C_NoChange)
  c_NoCrew : Cst mg "NoCrew" (.ref C_NoCrew)
  c_NoForm : Cst mg "NoForm" (.ref C_NoForm)
  c_NoGrammar : Cst mg "NoGrammar" (.ref C_NoGrammar)
  c_NoName : Cst mg "NoName" (.ref C_NoName)
  c_NoOutput : Cst mg "NoOutput" (.ref C_NoOutput)
  c_NoRow : Cst mg "NoRow" (.ref C_NoRow)
  c_NoRows : Cst mg "NoRows" (.ref C_NoRows)
  c_NoRule : Cst mg "NoRule" (.ref C_NoRule)
  c_NoText : Cst mg "NoText" (.ref C_NoText)
  c_NotEnough : Cst mg "NotEnough" (.ref C_NotEnough)
  c_NotRight : Cst mg "NotRight" (.ref C_NotRight)
  c_Pattern : Cst mg "Pattern" (.ref C_Pattern)
  a_Form__cells : NoAttr K C_Form "_cells"
  a_Form__parts : NoAttr K C_Form "_parts"
section
variable {P : Program} {w : World} {K : PySem.W.Frag} {mg : Str → Option Value} {base : Heap} {a_OPEN_PARTS : Addr} {C_Form : Addr} {C_GlueError : Addr} {C_NoChange : Addr} {C_NoCrew : Addr} {C_NoForm : Addr} {C_NoGrammar : Addr} {C_NoName : Addr} {C_NoOutput : Addr} {C_NoRow : Addr} {C_NoRows : Addr} {C_NoRule : Addr} {C_NoText : Addr} {C_NotEnough : Addr} {C_NotRight : Addr} {C_Pattern : Addr}
/-! ### drawing: _law_pool, _law_take, _law_all_signs -/
theorem ok__law_take {f : Addr} {fd : FuncData} (F : Fun K "_law_take" "_law_take" s__law_take f fd) (T : Txt K mg a_OPEN_PARTS C_Form C_GlueError C_NoChange C_NoCrew C_NoForm C_NoGrammar C_NoName C_NoOutput C_NoRow C_NoRows C_NoRule C_NoText C_NotEnough C_NotRight C_Pattern) : FnOk P w K mg base CX0 1 f fd ["pool", "many"] spTake := by
  refine F.ok sc__law_take (fun vs H Q E h => ?_) (fun cdv A outer s0 H vs Q E hr h => ?_)
  · obtain ⟨p, s, n, rfl, _⟩ := h
    rfl
  · obtain ⟨p, s, n, rfl, hp, hk, h0, h1, q⟩ := h
    refine ⟨_, (pss_cons (ps_if (pt_cmpR op_gt (pe_ix ix_list (pv 0) pe_int (fun _ _ => rfl)) pe_int (nomark _))
      (pss_cons (ps_set (i := 2) sc__law_take.nd rfl (Or.inl rfl) (pe_op op_mod (pe_callTy call_int1 (by rfl) T.n_int (by decide +kernel) (pa_cons (pe_ix ix_list (pv 0) pe_int (fun _ _ => rfl)) pa_nil)) (pv 1)))
      (pss_cons (ps_asg (pe_op op_fdivW (pe_ix ix_list (pv 0) pe_int (fun _ _ => rfl)) (pv 1)) (pg_sub (pv 0) pe_int set_list))
      (pss_one (ps_ret (pv 2)))))
      pss_nil)
      (pss_cons (ps_asg (pe_op op_mod (pe_callTy call_int1 (by rfl) T.n_int (by decide +kernel) (pa_cons (pe_op op_add (pe_op op_mul (pe_ix ix_list (pv 0) pe_int (fun _ _ => rfl)) pe_int) pe_int) pa_nil)) pe_int) (pg_sub (pv 0) pe_int set_list))
      (pss_one (ps_ret (pe_op op_mod (pe_callTy call_int1 (by rfl) T.n_int (by decide +kernel) (pa_cons (pe_op op_fdivW (pe_op op_mod (pe_callTy call_int1 (by rfl) T.n_int (by decide +kernel) (pa_cons (pe_op op_mul (pe_ix ix_list (pv 0) pe_int (fun _ _ => rfl)) (pe_ix ix_list (pv 0) pe_int (fun _ _ => rfl))) pa_nil)) pe_int) pe_int) pa_nil)) (pv 1)))))), ?_⟩
    refine q_when (b := decide (0 < s.1)) (et_test (ev_op (ev_op (ev_var rfl) ev_c (rv_ixL (sq_of hp) rfl)) ev_c rv_I0)) (fun hb H1 e1 => ?_) (fun hb H1 e1 => ?_)
    · have hc : 0 < s.1 := of_decide_eq_true hb
      rw [take_pos hc] at q
      have hp1 := e1 p _ hp
      refine q_asg (ev_op (ev_int (ev_op (ev_var rfl) ev_c (rv_ixL (sq_of hp1) rfl))) (ev_var rfl) (rv_mod h0)) fun H2 e2 => ?_
      have hp2 := e2 p _ hp1
      refine q_setL hp2 (ev_op (ev_op (ev_var rfl) ev_c (rv_ixL (sq_of hp2) rfl)) (ev_var rfl) (rv_div h0 (by omega))) (ev_var rfl) (j := 0) ev_c (by simp) fun H3 e3 => ?_
      refine s_ret (ev_var rfl) fun H4 e4 => q H4 ?_ (e4 p _ upd_same)
      exact (hx_trans (hx_of ((e1.trans e2).trans e3)) hx_upd).trans e4
    · have hc : ¬ 0 < s.1 := of_decide_eq_false hb
      rw [take_neg hc] at q
      have hp1 := e1 p _ hp
      have k2 := hk.2
      have k1 := hk.1
      refine q_setL hp1 (ev_op (ev_int (ev_op (ev_op (ev_op (ev_var rfl) ev_c (rv_ixL (sq_of hp1) rfl)) ev_c (rv_mul (.inr (by decide)))) ev_c rv_add)) ev_c (rv_mod (by decide))) (ev_var rfl) (j := 1) ev_c (by simp) fun H3 e3 => ?_
      have hp3 : (upd H3 p (.lst [.int s.1, .int ((s.2 * 48271 + 11) % 2147483647)])) p = some (.lst [.int s.1, .int ((s.2 * 48271 + 11) % 2147483647)]) := upd_same
      have b1 : 0 ≤ (s.2 * 48271 + 11) % 2147483647 := Int.emod_nonneg _ (by omega)
      have b2 : (s.2 * 48271 + 11) % 2147483647 < 2147483647 := Int.emod_lt_of_pos _ (by omega)
      refine s_ret (ev_op (ev_int (ev_op (ev_op (ev_int (ev_op (ev_op (ev_var rfl) ev_c (rv_ixL (sq_of hp3) rfl)) (ev_op (ev_var rfl) ev_c (rv_ixL (sq_of hp3) rfl)) (rv_mul (.inr (by omega))))) ev_c (rv_mod (by decide))) ev_c (rv_div (by decide) (by decide)))) (ev_var rfl) (rv_mod h0)) fun H4 e4 => q H4 ?_ (e4 p _ upd_same)
      exact (hx_trans (hx_of (e1.trans e3)) hx_upd).trans e4
theorem cell_ix {ns : List Int} {k : Int} (h : ns ≠ []) : atI (ns.map V.int) (k % ((ns.map V.int).length : Int)) = some (.int (cellAt ns k)) := by
  have hl : 0 < ns.length := List.length_pos_iff.mpr h
  have h1 : 0 ≤ k % (ns.length : Int) := Int.emod_nonneg k (by omega)
  have h2 : k % (ns.length : Int) < (ns.length : Int) := Int.emod_lt_of_pos k (by omega)
  rw [List.length_map]
  unfold atI ixN cellAt
  rw [List.length_map, if_pos h1, if_pos h2, if_neg h]
  have h3 : (k % (ns.length : Int)).toNat < ns.length := by omega
  show (ns.map V.int)[(k % (ns.length : Int)).toNat]? = _
  rw [List.getElem?_map, List.getElem?_eq_getElem h3, List.getD_eq_getElem?_getD, List.getElem?_eq_getElem h3]
  rfl
theorem ok__law_pool {f : Addr} {fd : FuncData} (F : Fun K "_law_pool" "_law_pool" s__law_pool f fd) (T : Txt K mg a_OPEN_PARTS C_Form C_GlueError C_NoChange C_NoCrew C_NoForm C_NoGrammar C_NoName C_NoOutput C_NoRow C_NoRows C_NoRule C_NoText C_NotEnough C_NotRight C_Pattern) : FnOk P w K mg base CX0 1 f fd ["script", "k"] (spPool K) := by
  refine F.ok sc__law_pool (fun vs H Q E h => ?_) (fun cdv A outer s0 H vs Q E hr h => ?_)
  · obtain ⟨a, ns, k, rfl, _⟩ := h
    rfl
  · obtain ⟨a, ns, k, rfl, hS, hl, k0, k1, q⟩ := h
    refine ⟨_, (pss_cons (ps_set (i := 2) sc__law_pool.nd rfl (Or.inl rfl) pe_int)
      (pss_cons (ps_if (pt_cmpR (op_neD hr.units) (pv 0) (pe_lst pa_nil) (nomark _))
      (pss_one (ps_set (i := 2) sc__law_pool.nd rfl (Or.inl rfl) (pe_ix ix_list (pv 0) (pe_op op_mod (pe_callTy call_int1 (by rfl) T.n_int (by decide +kernel) (pa_cons (pv 1) pa_nil)) (pe_callB call_len_seq (by rfl) T.n_len PySem.boot_len (pa_cons (pv 0) pa_nil))) (fun _ _ => rfl))))
      pss_nil)
      (pss_cons (ps_set (i := 3) sc__law_pool.nd rfl (Or.inl rfl) (pe_op op_mod (pe_op op_mul (pe_callTy call_int1 (by rfl) T.n_int (by decide +kernel) (pa_cons (pe_op op_add (pe_op op_add (pe_op op_mod (pe_callTy call_int1 (by rfl) T.n_int (by decide +kernel) (pa_cons (pv 2) pa_nil)) pe_int) (pe_op op_mul pe_int (pv 1))) pe_int) pa_nil)) pe_int) pe_int))
      (pss_one (ps_ret (pe_lst (pa_cons (pe_op op_mul (pv 2) (pe_callTy call_int1 (by rfl) T.n_int (by decide +kernel) (pa_cons (pe_cmpR op_ge (pv 2) (pe_op op_pow pe_int pe_int) (nomark _)) pa_nil))) (pa_cons (pv 3) pa_nil)))))))), ?_⟩
    refine q_asg ev_c fun H1 e1 => ?_
    have hS1 := ex_l e1 hS
    refine q_ifAsg (v := .int (cellAt ns k)) (b := !eqF (ns.map V.int) []) (et_test (ev_opL (ev_var rfl) (el_lst ea_nil (Nat.zero_le _)) fun p H2 hp2 e2 => rv_neL (ex_l e2 hS1) (sq_of hp2) okV_ints (by simp)))
      (fun hb => ?_) (fun hb => ?_) fun H2 e2 => ?_
    · have hn : ns ≠ [] := fun z => by
        subst z
        cases hb
      have hn2 : 0 < ((ns.map V.int).length : Int) := by
        have := List.length_pos_iff.mpr hn
        rw [List.length_map]
        omega
      exact ev_op (ev_var rfl) (ev_op (ev_int (ev_var rfl)) (ev_lenL (ev_var rfl) hS1) (rv_mod hn2)) (rv_ixL hS1 (cell_ix hn))
    · have hn : ns = [] := by
        rw [eqF_nil] at hb
        cases ns with
        | nil => rfl
        | cons _ _ => cases hb
      subst hn
      rfl
    refine q_asg (ev_op (ev_op (ev_int (ev_op (ev_op (ev_op (ev_int (ev_var rfl)) ev_c (rv_mod (by decide))) (ev_op ev_c (ev_var rfl) (rv_mul (.inl (by decide)))) rv_add) ev_c rv_add)) ev_c (rv_mul (.inr (by decide)))) ev_c (rv_mod (by decide))) fun H3 e3 => ?_
    refine s_retL (el_lst (ea_cons (ev_op (ev_var rfl) (ev_intB (ev_op (ev_var rfl) (ev_op ev_c ev_c (rv_I ⟨by decide, by decide, by decide⟩)) rv_I0)) (rv_mul (.inr ?_))) (ea_cons (ev_var rfl) ea_nil)) (by simp)) fun p H4 hp e4 h4 => ?_
    · split <;> decide
    · exact q p H4 (fresh_back ((e1.trans e2).trans e3) hp) (((e1.trans e2).trans e3).trans e4) h4
/-- a def without arguments that hands back v -/
def spK (v : V) : Sp := fun vs H Q _ => vs = [] ∧ RetV v H Q
theorem sv_spK {v : V} {G : Hp} : SpV (spK v) [] G v := fun H1 e Q q E => ⟨rfl, q⟩
def signsS : Str := " #-.0123456789:>ABCDEFGHIJKLMNOPQRSTUVWXYZabcdefghijklmnopqrstuvwxyz"
theorem ok__law_all_signs {f : Addr} {fd : FuncData} (F : Fun K "_law_all_signs" "_law_all_signs" s__law_all_signs f fd) : FnOk P w K mg base CX0 1 f fd [] (spK (.str signsS)) := by
  refine F.ok sc__law_all_signs (fun vs H Q E h => ?_) (fun cdv A outer s0 H vs Q E hr h => ?_)
  · obtain ⟨rfl, _⟩ := h
    rfl
  · obtain ⟨rfl, q⟩ := h
    refine ⟨_, (pss_one (ps_ret pe_str)), ?_⟩
    exact s_ret ev_c q

/-! ### is_line -/
def isLn (z : Str) : Bool := decide ((0 : Int) < (z.length : Int)) && z.cps.toList.all fun c => decide (c ∈ signsS.cps.toList)
def spIsLine (K : PySem.W.Frag) : Sp := fun vs H Q _ => ∃ x : V, vs = [x] ∧ ((∃ z : Str, x = .str z ∧ z.length ≤ 40000 ∧ RetV (.bl (isLn z)) H Q) ∨ (∃ a : String, TyX K H x (.type a) ∧ kitB a "str" = some false ∧ RetV (.bl false) H Q))
theorem ok_is_line {f : Addr} {fd : FuncData} (F : Fun K "is_line" "is_line" s_is_line f fd) (T : Txt K mg a_OPEN_PARTS C_Form C_GlueError C_NoChange C_NoCrew C_NoForm C_NoGrammar C_NoName C_NoOutput C_NoRow C_NoRows C_NoRule C_NoText C_NotEnough C_NotRight C_Pattern) : FnOk P w K mg base CX0 1 f fd ["thing"] (spIsLine K) := by
  refine F.ok sc_is_line (fun vs H Q E h => ?_) (fun cdv A outer s0 H vs Q E hr h => ?_)
  · obtain ⟨x, rfl, _⟩ := h
    rfl
  · obtain ⟨x, rfl, h⟩ := h
    refine ⟨_, (pss_one (ps_ret (pe_and (pe_callB call_isi (by rfl) T.n_isinstance (by decide +kernel) (pa_cons (pv 0) (pa_cons (pe_bltn (v := .ty "str") (by rfl) T.n_str (by decide +kernel) rfl) pa_nil))) (pe_and (pe_cmpR op_gt (pe_callB call_len_str (by rfl) T.n_len PySem.boot_len (pa_cons (pv 0) pa_nil)) pe_int (nomark _)) (pe_one (pe_callB (cr_all rfl) (by rfl) T.n_all (by decide +kernel) (pa_cons (pe_lc (own := [("sign", 1)]) (g := gName 1) rfl sc_is_line.nd (pi_str (pv 0)) (blkOk_by (own := [("sign", 1)]) (N := ["thing", "sign"]) (sc := defScope s_is_line) (by decide +kernel)) (fun _ _ _ _ _ => pg_name (i := 1) sc_is_line.nd rfl (Or.inl rfl)) (fun _ _ _ _ _ => pts_nil) (fun _ _ _ _ _ => (pe_cmpR op_in_sign (pv 1) (pe_cst T.c_SIGNS (by rfl)) (by rfl)))) pa_nil))))))), ?_⟩
    rcases h with ⟨z, rfl, hz, q⟩ | ⟨a, ty, hk, q⟩
    · refine s_ret (v := .bl (true && (decide ((0 : Int) < (z.length : Int)) && (z.cps.toList.map fun c => decide (c ∈ signsS.cps.toList)).all id))) ?_ ?_
      · refine ev_andV (ev_isi (ev_var rfl) (.base (.str z)) (by decide +kernel)) fun _ => ?_
        refine ev_andV (ev_op (ev_lenS (ev_var rfl) (by omega)) ev_c rv_I0) fun _ => ?_
        refine ev_all ?_
        have e := el_lcT (σ := start ["thing", "sign"] [.str z]) (H := H) (tl := tVar 0) (te := tOp _ (tVar 1) (tC (.str signsS))) (t := tYes) (j := 1) (vs := [1]) (fun _ => true) (fun c => .bl (decide (c ∈ signsS.cps.toList))) (ev_var rfl) hz (fun _ => rfl) (fun _ _ _ _ => et_yes)
          (fun c H1 e1 hc _ => ev_op (ev_var rfl) ev_c rv_sgn)
        rw [filter_yes] at e
        rw [List.map_map]
        exact e
      · have ee : (true && (decide ((0 : Int) < (z.length : Int)) && (z.cps.toList.map fun c => decide (c ∈ signsS.cps.toList)).all id)) = isLn z := by
          unfold isLn
          rw [Bool.true_and, List.all_map]
          rfl
        rw [ee]
        exact q
    · refine s_ret (v := .bl (false && false)) (ev_andV (ev_isi (ev_var rfl) ty hk) fun z => by cases z) q

/-! ### cells: the mirror -/
def anyP : Str := "<any>"
def digP : Str := "<digits>"
def wordP : Str := "<word>"
def digS : Str := "0123456789"
def letS : Str := "ABCDEFGHIJKLMNOPQRSTUVWXYZabcdefghijklmnopqrstuvwxyz"
def vN (k : Nat) : V := .int (k : Int)
def isOpen (p : Str) : Bool := inV (.str p) [V.str digP, V.str wordP, V.str anyP]
/-- the signs of a text, a text each -/
def signsOf (p : Str) : List Str := p.cps.toList.map fun c => ⟨#[c]⟩
def cellOf1 (p : Str) : List Str := if isOpen p then [p] else signsOf p
def cellsM : List Str → List Str
  | [] => []
  | p :: ps => cellOf1 p ++ cellsM ps
def takesM (cell : Str) (c : Nat) : Bool := if cell = digP then decide (c ∈ digS.cps.toList) else if cell = wordP then decide (c ∈ letS.cps.toList) else decide (cell = ⟨#[c]⟩)
def cellAt' (cells : List Str) (k : Nat) : Str := cells.getD k ""
def closeT (cells : List Str) (ps cl : List Nat) (k : Nat) : Bool := decide (k ∈ ps) || (decide (0 < k) && decide (k - 1 ∈ cl) && decide (cellAt' cells (k - 1) = anyP))
def closedN (cells : List Str) (ps : List Nat) : Nat → List Nat
  | 0 => []
  | k + 1 => if closeT cells ps (closedN cells ps k) k then closedN cells ps k ++ [k] else closedN cells ps k
def closedM (cells : List Str) (ps : List Nat) : List Nat := closedN cells ps (cells.length + 1)
def rawA (cells : List Str) (c : Nat) (acc : List Nat) (k : Nat) : List Nat :=
  if decide (k < cells.length) && decide (cellAt' cells k = anyP) then acc ++ [k] else if decide (k < cells.length) && takesM (cellAt' cells k) c then acc ++ [k + 1] else acc
def rawT (cells : List Str) (c : Nat) (k : Nat) : Bool := decide (0 < k) && (decide (cellAt' cells (k - 1) = digP) || decide (cellAt' cells (k - 1) = wordP)) && takesM (cellAt' cells (k - 1)) c
def rawB (cells : List Str) (c : Nat) (acc : List Nat) (k : Nat) : List Nat := if rawT cells c k then rawA cells c acc k ++ [k] else rawA cells c acc k
def rawM (cells : List Str) (c : Nat) (ps : List Nat) : List Nat := ps.foldl (rawB cells c) []
def movedM (cells : List Str) (ps : List Nat) (c : Nat) : List Nat := closedM cells (rawM cells c ps)
def startedM (cells : List Str) : List Nat := closedM cells [0]
/-! small facts -/
theorem flat_vN (ps : List Nat) : (ps.map vN).all flatV = true := by
  rw [List.all_map]
  exact List.all_eq_true.mpr fun _ _ => rfl
theorem flat_str (ps : List Str) : (ps.map V.str).all flatV = true := by
  rw [List.all_map]
  exact List.all_eq_true.mpr fun _ _ => rfl
theorem inV_vN (k : Nat) : ∀ ps : List Nat, inV (.int (k : Int)) (ps.map vN) = decide (k ∈ ps)
  | [] => rfl
  | p :: ps => by
    show (eqV (vN p) (.int (k : Int)) || inV (.int (k : Int)) (ps.map vN)) = _
    rw [inV_vN k ps, show eqV (vN p) (.int (k : Int)) = ((p : Int) == (k : Int)) from rfl]
    by_cases h : k = p
    · subst h
      simp
    · have : ¬ ((p : Int) = (k : Int)) := by omega
      simp [h, this]
theorem inV_str (k : Str) : ∀ ps : List Str, inV (.str k) (ps.map V.str) = decide (k ∈ ps)
  | [] => rfl
  | p :: ps => by
    show (eqV (.str p) (.str k) || inV (.str k) (ps.map V.str)) = _
    rw [inV_str k ps, show eqV (.str p) (.str k) = (p == k) from rfl]
    by_cases h : k = p
    · subst h
      simp
    · have : ¬ p = k := fun z => h z.symm
      simp [h, this]
theorem isOpen_eq (p : Str) : isOpen p = decide (p ∈ [digP, wordP, anyP]) := inV_str p [digP, wordP, anyP]
theorem isOpen_iff {p : Str} : isOpen p = true ↔ p = digP ∨ p = wordP ∨ p = anyP := by
  rw [isOpen_eq]
  simp
theorem chars_eq (z : Str) : chars z = (signsOf z).map V.str := by
  unfold chars signsOf
  rw [List.map_map]
  rfl
theorem cell_get {cells : List Str} {k : Nat} (h : k < cells.length) : (cells.map V.str)[k]? = some (.str (cellAt' cells k)) := by
  unfold cellAt'
  rw [List.getElem?_map, List.getElem?_eq_getElem h, List.getD_eq_getElem?_getD, List.getElem?_eq_getElem h]
  rfl
theorem cell_at {cells : List Str} {k : Nat} (h : k < cells.length) : atI (cells.map V.str) (k : Int) = some (.str (cellAt' cells k)) := by
  unfold atI ixN
  rw [if_pos (by omega), if_pos (by rw [List.length_map]; omega)]
  exact cell_get h
theorem cell_at1 {cells : List Str} {k : Nat} (h0 : 0 < k) (h : k ≤ cells.length) : atI (cells.map V.str) ((k : Int) - 1) = some (.str (cellAt' cells (k - 1))) := by
  rw [show (k : Int) - 1 = ((k - 1 : Nat) : Int) by omega]
  exact cell_at (by omega)
theorem inV_pred {k : Nat} (ps : List Nat) : inV (.int ((k : Int) - 1)) (ps.map vN) = (decide (0 < k) && decide (k - 1 ∈ ps)) := by
  by_cases h : 0 < k
  · rw [show (k : Int) - 1 = ((k - 1 : Nat) : Int) by omega, inV_vN, decide_eq_true h, Bool.true_and]
  · have e : k = 0 := by omega
    subst e
    rw [decide_eq_false (by omega), Bool.false_and]
    induction ps with
    | nil => rfl
    | cons p ps ih =>
      show (eqV (vN p) (.int ((0 : Nat) - 1 : Int)) || inV (.int (((0 : Nat) : Int) - 1)) (ps.map vN)) = _
      rw [ih, show eqV (vN p) (.int ((0 : Nat) - 1 : Int)) = ((p : Int) == ((0 : Nat) : Int) - 1) from rfl]
      have : ¬ ((p : Int) = ((0 : Nat) : Int) - 1) := by omega
      simp [this]
theorem closedN_len (cells : List Str) (ps : List Nat) : ∀ k, (closedN cells ps k).length ≤ k
  | 0 => Nat.zero_le _
  | k + 1 => by
    have := closedN_len cells ps k
    show (if closeT cells ps (closedN cells ps k) k then closedN cells ps k ++ [k] else closedN cells ps k).length ≤ k + 1
    split
    · rw [List.length_append, List.length_singleton]
      omega
    · omega
theorem rawB_len (cells : List Str) (c : Nat) (acc : List Nat) (k : Nat) : (rawB cells c acc k).length ≤ acc.length + 2 := by
  unfold rawB rawA
  split <;> split <;> simp <;> split <;> simp
theorem rawM_len (cells : List Str) (c : Nat) : ∀ (ps acc : List Nat), (ps.foldl (rawB cells c) acc).length ≤ acc.length + 2 * ps.length
  | [], acc => by simp
  | k :: ps, acc => by
    have h1 := rawM_len cells c ps (rawB cells c acc k)
    have h2 := rawB_len cells c acc k
    rw [List.foldl_cons, List.length_cons]
    omega
/-! the promises -/
def RetU (xs : List V) (H : Hp) (Q : VK) : Prop := ∀ p H2, H p = none → Ex H H2 → H2 p = some (.tup xs) → Q (.ref p) H2

theorem lt_len {a : Nat} {b : Nat} : decide ((a : Int) < (b : Int)) = decide (a < b) := by
  by_cases h : a < b
  · rw [decide_eq_true h, decide_eq_true (by omega)]
  · rw [decide_eq_false h, decide_eq_false (by omega)]
theorem gt_zero {a : Nat} : decide ((0 : Int) < (a : Int)) = decide (0 < a) := by
  by_cases h : 0 < a
  · rw [decide_eq_true h, decide_eq_true (by omega)]
  · rw [decide_eq_false h, decide_eq_false (by omega)]

theorem cellsM_app (ps qs : List Str) : cellsM (ps ++ qs) = cellsM ps ++ cellsM qs := by
  induction ps with
  | nil => rfl
  | cons p ps ih =>
    show cellOf1 p ++ cellsM (ps ++ qs) = (cellOf1 p ++ cellsM ps) ++ cellsM qs
    rw [ih, List.append_assoc]
theorem cellOf1_len {p : Str} (h : p.length ≤ 100) : (cellOf1 p).length ≤ 100 := by
  unfold cellOf1
  split
  · simp
  · unfold signsOf
    rw [List.length_map]
    simpa [Str.length] using h
theorem cellsM_len {ps : List Str} (h : ∀ p ∈ ps, p.length ≤ 100) : (cellsM ps).length ≤ 100 * ps.length := by
  induction ps with
  | nil => simp [cellsM]
  | cons p ps ih =>
    have h1 := cellOf1_len (h p List.mem_cons_self)
    have h2 := ih fun q hq => h q (List.mem_cons_of_mem _ hq)
    show (cellOf1 p ++ cellsM ps).length ≤ _
    rw [List.length_append, List.length_cons]
    omega
/-- what a list that is handed back is -/
def spCells (K : PySem.W.Frag) : Sp := fun vs H Q _ => ∃ (a : Addr) (ps : List Str), vs = [.ref a] ∧ SqL K H a (ps.map V.str) ∧ ps.length ≤ 100 ∧ (∀ p ∈ ps, p.length ≤ 100) ∧ RetL ((cellsM ps).map V.str) H Q
def spCellsT (K : PySem.W.Frag) : Sp := fun vs H Q _ => ∃ (a : Addr) (ps : List Str), vs = [.ref a] ∧ SqT K H a (ps.map V.str) ∧ ps.length ≤ 100 ∧ (∀ p ∈ ps, p.length ≤ 100) ∧ RetL ((cellsM ps).map V.str) H Q
theorem cells_turn {σ : L2.St} {H H2 : Hp} {l : Addr} {i : Nat} {ps : List Str} {p : Str} {y : Addr} {a : Addr} {D : Ends} (T : Txt K mg a_OPEN_PARTS C_Form C_GlueError C_NoChange C_NoCrew C_NoForm C_NoGrammar C_NoName C_NoOutput C_NoRow C_NoRows C_NoRule C_NoText C_NotEnough C_NotRight C_Pattern) (hp : ps[i]? = some p) (hl : ∀ p ∈ ps, p.length ≤ 100) (hn : ps.length ≤ 100) (hl0 : H l = none) (e2 : Ex H H2) (h2 : H2 l = some (.lst ((cellsM (ps.take i)).map V.str)))
    (k : ∀ H', Ex H H' → H' l = some (.lst ((cellsM (ps.take (i + 1))).map V.str)) → D.nx [some (.ref a), some (.ref l), some (.str p)] H') :
    tIfS (tTest (tOp (rIn K false) (tVar 2) (tC (.ref a_OPEN_PARTS)))) (tDrop (tBM K "list" rAppend (tVar 1) (tCons (tVar 2) tNil))) (tDrop (tBM K "list" rExtend (tVar 1) (tCons (tCB rListStr (tCons (tVar 2) tNil)) tNil))) D [some (.ref a), some (.ref l), some (.str p)] H2 := by
  have hpm := List.mem_of_getElem? hp
  have hp1 := hl p hpm
  have ht : cellsM (ps.take (i + 1)) = cellsM (ps.take i) ++ cellOf1 p := by
    rw [List.take_add_one, hp, cellsM_app]
    show cellsM (ps.take i) ++ (cellOf1 p ++ []) = _
    rw [List.append_nil]
  have hlen : (cellsM (ps.take i)).length ≤ 10000 := by
    have h1 := cellsM_len (ps := ps.take i) fun q hq => hl q (List.mem_of_mem_take hq)
    have h2 : (ps.take i).length ≤ ps.length := by
      rw [List.length_take]
      omega
    omega
  rw [ht] at k
  refine s_if (b := isOpen p) (et_test (ev_op (ev_var rfl) ev_c (rv_isT T.o_OPEN_PARTS.at_ rfl rfl))) (fun hb H3 e3 => ?_) (fun hb H3 e3 => ?_)
  · have e1 : cellOf1 p = [p] := if_pos hb
    rw [e1] at k
    refine s_app (e3 _ _ h2) (ev_var rfl) (ev_var rfl) (by rw [List.length_map]; omega) fun H4 e4 => k _ (Ex.mut ((e2.trans e3).trans e4) hl0) ?_
    rw [upd_same, List.map_append]
    rfl
  · have e1 : cellOf1 p = signsOf p := by
      unfold cellOf1
      rw [hb]
      rfl
    rw [e1] at k
    have hs : (signsOf p).length = p.length := by
      unfold signsOf
      rw [List.length_map]
      simp [Str.length]
    refine s_extL (ys := (signsOf p).map V.str) (e3 _ _ h2) (ev_var rfl) (by rw [← chars_eq]; exact el_listS (ev_var rfl) (by omega)) (by rw [List.length_map, List.length_map, hs]; omega) fun q H4 hq e4 => k _ (Ex.mut ((e2.trans e3).trans e4) hl0) ?_
    rw [upd_same, List.map_append]

theorem ok_cells_of__t {f : Addr} {fd : FuncData} (F : Fun K "cells_of" "cells_of" s_cells_of f fd) (T : Txt K mg a_OPEN_PARTS C_Form C_GlueError C_NoChange C_NoCrew C_NoForm C_NoGrammar C_NoName C_NoOutput C_NoRow C_NoRows C_NoRule C_NoText C_NotEnough C_NotRight C_Pattern) : FnOk P w K mg base CX0 1 f fd ["parts"] (spCellsT K) := by
  refine F.ok sc_cells_of (fun vs H Q E h => ?_) (fun cdv A outer s0 H vs Q E hr h => ?_)
  · obtain ⟨a, ps, rfl, _⟩ := h
    rfl
  · obtain ⟨a, ps, rfl, hA, hn, hl, q⟩ := h
    refine ⟨_, (pss_cons (ps_set (i := 1) sc_cells_of.nd rfl (Or.inl rfl) (pe_lst pa_nil))
      (pss_cons (ps_for PassesOwn.never rfl (pi_tup (pv 0)) (pg_name (i := 2) sc_cells_of.nd rfl (Or.inl rfl))
      (pss_one (ps_if (pt_cmpR op_in_seq (pv 2) (pe_cst T.c_OPEN_PARTS (by rfl)) (by rfl))
      (pss_one (ps_expr (pe_bm PySem.F.plainAttrs_list PySem.F.slot_list_append PySem.F.type_list_append mt_append (pv 1) (pa_cons (pv 2) pa_nil))))
      (pss_one (ps_expr (pe_bm PySem.F.plainAttrs_list PySem.F.slot_list_extend PySem.F.type_list_extend mt_extend (pv 1) (pa_cons (pe_callTy (call_listS rfl) (by rfl) T.n_list (by decide +kernel) (pa_cons (pv 2) pa_nil)) pa_nil)))))))
      (pss_one (ps_ret (pv 1))))), ?_⟩
    refine q_asgL (el_lst ea_nil (Nat.zero_le _)) fun l H1 hl0 e1 h1 => ?_
    refine q_forT (ev_var rfl) (ex_t e1 hA) (fun i σ' H' => ∃ y : Option V, σ' = [some (.ref a), some (.ref l), y] ∧ Ex H H' ∧ H' l = some (.lst ((cellsM (ps.take i)).map V.str))) (fun H2 e2 => ⟨none, rfl, e1.trans e2, e2 _ _ h1⟩) (fun i σ' H' _ pv => ?_) ?_ ?_
    · obtain ⟨y, _, e2, _⟩ := pv
      exact ex_t e2 hA
    · rintro i x σ' H2 hx ⟨y, rfl, e2, h2⟩
      obtain ⟨p, hp, rfl⟩ : ∃ p, ps[i]? = some p ∧ x = .str p := by
        rw [List.getElem?_map] at hx
        cases hq : ps[i]? with
        | none =>
          rw [hq] at hx
          cases hx
        | some p =>
          rw [hq] at hx
          exact ⟨p, rfl, (Option.some.inj hx).symm⟩
      exact cells_turn (σ := []) (y := a) T hp hl hn hl0 e2 h2 fun H' e' h' => ⟨_, rfl, e', h'⟩
    · rintro σ' H2 ⟨y, rfl, e2, h2⟩
      rw [List.length_map, List.take_of_length_le (Nat.le_refl _)] at h2
      exact s_ret (ev_var rfl) fun H3 e3 => q l H3 hl0 (e2.trans e3) (e3 _ _ h2)

/-! ### drawn signs, texts -/
theorem evp_take {σ : L2.St} {G : Hp} {p : Addr} {s : Int × Int} {n : Int} {i : Nat} (hi : σ[i]? = some (some (.ref p))) (hk : Pk s) (h0 : 0 < n) (h1 : n < 2 ^ 60) :
    EvP (tCall spTake [] E0 (tCons (tVar i) (tCons (tC (.int n)) tNil))) σ G p s (.int (take s n).1) (take s n).2 :=
  evp_call (EvAP.of (ea_cons (ev_var hi) (ea_cons ev_c ea_nil))) (sp_take hk h0 h1)
/-- the sign of a text that a draw picks -/
def sgn (z : Str) (d : Int) : Nat := z.cps.toList.getD d.toNat 0
theorem str_len (z : Str) : z.length = z.cps.toList.length := by simp [Str.length]
theorem sgn_ix {z : Str} {d : Int} (h0 : 0 ≤ d) (h : d < (z.length : Int)) : atI z.cps.toList d = some (sgn z d) := by
  have ez := str_len z
  have h3 : d.toNat < z.cps.toList.length := by omega
  unfold atI ixN sgn
  rw [if_pos h0, if_pos (by omega)]
  show z.cps.toList[d.toNat]? = _
  rw [List.getElem?_eq_getElem h3, List.getD_eq_getElem?_getD, List.getElem?_eq_getElem h3]
  rfl
theorem sgn_mem {z : Str} {d : Int} (h0 : 0 ≤ d) (h : d < (z.length : Int)) : sgn z d ∈ z.cps.toList := by
  have ez := str_len z
  have h3 : d.toNat < z.cps.toList.length := by omega
  unfold sgn
  rw [List.getD_eq_getElem?_getD, List.getElem?_eq_getElem h3]
  exact List.getElem_mem h3
theorem len_signs : signsS.length = 68 := by decide +kernel
theorem app1_len (z : Str) (c : Nat) : (z ++ (⟨#[c]⟩ : Str)).length = z.length + 1 := by
  show (z.cps ++ #[c]).size = z.cps.size + 1
  simp
theorem app1_list (z : Str) (c : Nat) : (z ++ (⟨#[c]⟩ : Str)).cps.toList = z.cps.toList ++ [c] := by
  show (z.cps ++ #[c]).toList = _
  simp
theorem app_len (z y : Str) : (z ++ y).length = z.length + y.length := by
  show (z.cps ++ y.cps).size = z.cps.size + y.cps.size
  simp
theorem app_list (z y : Str) : (z ++ y).cps.toList = z.cps.toList ++ y.cps.toList := by
  show (z.cps ++ y.cps).toList = _
  simp
/-- all its signs are signs of lines -/
def Lny (z : Str) : Prop := ∀ c ∈ z.cps.toList, c ∈ signsS.cps.toList
theorem lny_nil : Lny ("" : Str) := by
  unfold Lny
  decide +kernel
theorem lny_app {z y : Str} (h : Lny z) (k : Lny y) : Lny (z ++ y) := fun c hc => by
  rw [app_list] at hc
  exact (List.mem_append.mp hc).elim (h c) (k c)
theorem lny_1 {c : Nat} (h : c ∈ signsS.cps.toList) : Lny ⟨#[c]⟩ := fun d hd => by
  rw [List.mem_singleton.mp hd]
  exact h
theorem lny_sgn {z : Str} {d : Int} (hz : Lny z) (h0 : 0 ≤ d) (h : d < (z.length : Int)) : Lny ⟨#[sgn z d]⟩ := lny_1 (hz _ (sgn_mem h0 h))
theorem sign_lt {c : Nat} (h : c ∈ signsS.cps.toList) : c < 128 := by
  have : ∀ c ∈ signsS.cps.toList, c < 128 := by decide +kernel
  exact this c h
theorem lny_ok {z : Str} (h : Lny z) : okV (.str z) = true := by
  show z.cps.all (fun x => decide (x < 0x110000)) = true
  rw [← Array.all_toList]
  exact List.all_eq_true.mpr fun c hc => decide_eq_true (by have := sign_lt (h c hc); omega)

theorem tup_at {xs : List V} {k : Nat} {v : V} (h : xs[k]? = some v) : atI xs (k : Int) = some v := by
  have hk := (List.getElem?_eq_some_iff.mp h).1
  unfold atI ixN
  rw [if_pos (by omega), if_pos (by omega)]
  exact h

/-! ### slices of lists; states' lengths -/
theorem cutV_lt {xs : List V} {b : Nat} : cutV xs none (some (b : Int)) = xs.take b := by
  unfold cutV
  rw [HT.sIx_none, HT.sIx_nat, List.drop_zero, Nat.sub_zero]
  by_cases h : b ≤ xs.length
  · rw [Nat.min_eq_left h]
  · rw [Nat.min_eq_right (by omega), List.take_of_length_le (Nat.le_refl _), List.take_of_length_le (by omega)]
theorem cutV_in {xs : List V} {a b : Nat} : cutV xs (some (a : Int)) (some (b : Int)) = (xs.drop a).take (b - a) := by
  unfold cutV
  rw [HT.sIx_nat, HT.sIx_nat]
  by_cases h : a ≤ xs.length
  · rw [Nat.min_eq_left h]
    by_cases h2 : b ≤ xs.length
    · rw [Nat.min_eq_left h2]
    · rw [Nat.min_eq_right (by omega), List.take_of_length_le (by rw [List.length_drop]; exact Nat.le_refl _), List.take_of_length_le (by rw [List.length_drop]; omega)]
  · rw [Nat.min_eq_right (by omega : xs.length ≤ a), List.drop_of_length_le (Nat.le_refl _), List.drop_of_length_le (by omega)]
    simp

/-- a short text -/
def okS (z : Str) : Prop := z.length ≤ 100 ∧ okV (.str z) = true
/-- what may stand as a part -/
inductive PV (H : Hp) : V → Prop
  | str {z : Str} (h : okS z) : PV H (.str z)
  | non : PV H .non
  | int (i : Int) : PV H (.int i)
  | bl (b : Bool) : PV H (.bl b)
  | lst {r : Addr} (h : H r = some (.lst [.str ("a" : Str)])) : PV H (.ref r)
theorem PV.ex {H H' : Hp} {x : V} (h : PV H x) (e : Ex H H') : PV H' x := by
  cases h with
  | str h => exact .str h
  | non => exact .non
  | int i => exact .int i
  | bl b => exact .bl b
  | lst h => exact .lst (e _ _ h)
theorem PV.ty {H : Hp} {x : V} (h : PV H x) : (∃ z, x = .str z ∧ okS z) ∨ ((∀ z, x ≠ .str z) ∧ ∃ a : String, TyX K H x (.type a) ∧ kitB a "str" = some false) := by
  cases h with
  | str h => exact .inl ⟨_, rfl, h⟩
  | non => exact .inr ⟨fun z e => (nomatch e), _, .base .non, by decide +kernel⟩
  | int i => exact .inr ⟨fun z e => (nomatch e), _, .base (.int i), by decide +kernel⟩
  | bl b => exact .inr ⟨fun z e => (nomatch e), _, .base (.bl b), by decide +kernel⟩
  | lst h => exact .inr ⟨fun z e => (nomatch e), _, .base (.lst h), by decide +kernel⟩
/-- list of parts at l: H without l and p holds what they are -/
def PVs (G : Hp) (xs : List V) : Prop := ∀ x ∈ xs, PV G x
theorem PVs.ex {G H : Hp} {xs : List V} (h : PVs G xs) (e : Ex G H) : PVs H xs := fun x hx => (h x hx).ex e
theorem PVs.snoc {G : Hp} {xs : List V} {x : V} (h : PVs G xs) (k : PV G x) : PVs G (xs ++ [x]) := fun y hy => (List.mem_append.mp hy).elim (h y) fun z => by
  rw [List.mem_singleton.mp z]
  exact k
theorem at_mem {xs : List V} {d : Int} (h0 : 0 ≤ d) (h : d < (xs.length : Int)) : ∃ v, atI xs d = some v ∧ v ∈ xs := by
  have h3 : d.toNat < xs.length := by omega
  refine ⟨xs[d.toNat], ?_, List.getElem_mem h3⟩
  unfold atI ixN
  rw [if_pos h0, if_pos h]
  exact List.getElem?_eq_getElem h3

/-! ### what makes a part wrong -/
def freeV : V → Bool
  | .str z => isOpen z
  | _ => false
def fixM (z : Str) : Bool := !isOpen z && ((decide ((1 : Int) ≤ (z.length : Int)) && decide ((z.length : Int) ≤ 4)) && z.cps.toList.all fun c => decide (c ∈ signsS.cps.toList))
def fixV : V → Bool
  | .str z => fixM z
  | _ => false
def anyV : V → Bool
  | .str z => decide (z = anyP)
  | _ => false
def prevFix (xs : List V) (k : Nat) : Bool := decide (0 < k) && fixV (xs.getD (k - 1) .non)
def badAt (xs : List V) (k : Nat) : Bool :=
  (decide (3 < k) || (!freeV (xs.getD k .non) && !fixV (xs.getD k .non))) || ((!freeV (xs.getD k .non) && prevFix xs k) || (anyV (xs.getD k .non) && (xs.take k).any anyV))
/-- what _law_first_bad answers -/
def Due (xs : List V) (d : Int) : Prop := (d = -1 ∧ ∀ j < xs.length, badAt xs j = false) ∨ ∃ k, k < xs.length ∧ badAt xs k = true ∧ (∀ j < k, badAt xs j = false) ∧ d = (k : Int)
theorem good_str {xs : List V} {k : Nat} (h : badAt xs k = false) : ∃ z, xs.getD k .non = .str z ∧ (isOpen z = true ∨ fixM z = true) := by
  unfold badAt at h
  simp only [Bool.or_eq_false_iff] at h
  obtain ⟨⟨_, h⟩, _⟩ := h
  cases hx : xs.getD k .non with
  | str z =>
    rw [hx] at h
    refine ⟨z, rfl, ?_⟩
    change (!isOpen z && !fixM z) = false at h
    cases h1 : isOpen z with
    | true => exact .inl rfl
    | false =>
      rw [h1] at h
      right
      simpa using h
  | _ =>
    rw [hx] at h
    cases h
theorem getD_some {xs : List V} {k : Nat} (h : k < xs.length) : xs[k]? = some (xs.getD k .non) := by
  rw [List.getD_eq_getElem?_getD, List.getElem?_eq_getElem h]
  rfl
/-- ahead of the first wrong part all are texts -/
theorem take_strs {xs : List V} : ∀ {k : Nat}, k ≤ xs.length → (∀ j < k, badAt xs j = false) → ∃ ps : List Str, xs.take k = ps.map V.str ∧ ps.length = k
  | 0, _, _ => ⟨[], by simp, rfl⟩
  | k + 1, hk, h => by
    obtain ⟨ps, e, l⟩ := take_strs (k := k) (by omega) fun j hj => h j (by omega)
    obtain ⟨z, hz, _⟩ := good_str (h k (by omega))
    refine ⟨ps ++ [z], ?_, by rw [List.length_append, l]; rfl⟩
    rw [List.take_add_one, getD_some (by omega), hz, e, List.map_append]
    rfl
theorem any_strs (ps : List Str) : (ps.map V.str).any anyV = decide (anyP ∈ ps) := by
  induction ps with
  | nil => rfl
  | cons p ps ih =>
    rw [List.map_cons, List.any_cons, ih]
    show (decide (p = anyP) || _) = _
    by_cases h : p = anyP
    · simp [h]
    · have h' : ¬ anyP = p := fun z => h z.symm
      simp [h, h']
theorem el_bads {z : Str} (hz : okV (.str z) = true) : ∀ v ∈ ((z.cps.toList.filter fun c => !decide (c ∈ signsS.cps.toList)).map fun c => V.str ⟨#[c]⟩), okV v = true := fun v hv => by
  obtain ⟨c, hc, rfl⟩ := List.mem_map.mp hv
  have hm := (List.mem_filter.mp hc).1
  have : (z.cps.all fun x => decide (x < 0x110000)) = true := hz
  rw [← Array.all_toList] at this
  exact okV_str1 (of_decide_eq_true (List.all_eq_true.mp this c hm))
theorem none_bad (z : Str) : eqF ((z.cps.toList.filter fun c => !decide (c ∈ signsS.cps.toList)).map fun c => V.str ⟨#[c]⟩) [] = z.cps.toList.all fun c => decide (c ∈ signsS.cps.toList) := by
  rw [eqF_nil, List.isEmpty_map]
  induction z.cps.toList with
  | nil => rfl
  | cons c cs ih =>
    rw [List.filter_cons, List.all_cons]
    cases h : decide (c ∈ signsS.cps.toList) with
    | true =>
      rw [if_neg (by simp), Bool.true_and]
      exact ih
    | false =>
      rw [if_pos (by simp), Bool.false_and]
      rfl
def spFixed : Sp := fun vs H Q _ => ∃ x : V, vs = [x] ∧ PV H x ∧ RetV (.bl (fixV x)) H Q
theorem sv_fixed {x : V} {G : Hp} (h : PV G x) : SpV spFixed [x] G (.bl (fixV x)) := fun H1 e Q q E => ⟨x, rfl, h.ex e, q⟩
theorem ev_open {σ : L2.St} {H : Hp} {i : Nat} {z : Str} (hi : σ[i]? = some (some (.str z))) : Ev (tOp (rIn K false) (tVar i) (tTup (tCons (tC (.str digP)) (tCons (tC (.str wordP)) (tCons (tC (.str anyP)) tNil))))) σ H (.bl (isOpen z)) :=
  ev_inU (ev_var hi) (eu_tup (ea_cons ev_c (ea_cons ev_c (ea_cons ev_c ea_nil))) (by simp)) rfl rfl
theorem ev_chain {σ : L2.St} {H : Hp} {ta tb tc : TE} {x y z : V} {r r' : R2} {a b : Bool} (ha : Ev ta σ H x) (hb : Ev tb σ H y) (hc : Ev tc σ H z) (h1 : RV r x y H (.bl a)) (h2 : RV r' y z H (.bl b)) : Ev (tChain r r' ta tb tc) σ H (.bl (a && b)) := fun H1 e Q q =>
  ha H1 e _ fun H2 e2 => hb H2 (e.trans e2) _ fun H3 e3 => h1 H3 ((e.trans e2).trans e3) _ fun H4 e4 => ⟨a, rfl, by
    have e14 := (e2.trans e3).trans e4
    cases a with
    | true =>
      show tc σ H4 _
      exact hc H4 (e.trans e14) _ fun H5 e5 => h2 H5 ((e.trans e14).trans e5) Q fun H6 e6 => q H6 ((e14.trans e5).trans e6)
    | false =>
      show Q (.bl false) H4
      exact q H4 e14⟩
theorem ok__law_is_fixed {f : Addr} {fd : FuncData} (F : Fun K "_law_is_fixed" "_law_is_fixed" s__law_is_fixed f fd) (T : Txt K mg a_OPEN_PARTS C_Form C_GlueError C_NoChange C_NoCrew C_NoForm C_NoGrammar C_NoName C_NoOutput C_NoRow C_NoRows C_NoRule C_NoText C_NotEnough C_NotRight C_Pattern) (D__law_all_signs : Df P w K mg base "_law_all_signs" [] 1 (spK (.str signsS))) : FnOk P w K mg base CX0 2 f fd ["part"] spFixed := by
  refine F.ok sc__law_is_fixed (fun vs H Q E h => ?_) (fun cdv A outer s0 H vs Q E hr h => ?_)
  · obtain ⟨x, rfl, _⟩ := h
    rfl
  · obtain ⟨x, rfl, hx, q⟩ := h
    refine ⟨_, (pss_cons (ps_if (PW.pt (pw_or (pt_not (pt_val (pe_callB call_isi (by rfl) T.n_isinstance (by decide +kernel) (pa_cons (pv 0) (pa_cons (pe_bltn (v := .ty "str") (by rfl) T.n_str (by decide +kernel) rfl) pa_nil))))) (pw_or1 (pt_cmpR op_in_seq (pv 0) (pe_tup (pa_cons pe_str (pa_cons pe_str (pa_cons pe_str pa_nil)))) (by rfl)))))
      (pss_one (ps_ret pe_bl))
      pss_nil)
      (pss_one (ps_ret (pe_and (pe_chain op_le op_le pe_int (pe_callB call_len_str (by rfl) T.n_len PySem.boot_len (pa_cons (pv 0) pa_nil)) pe_int) (pe_one (pe_cmpR (op_eqD hr.units) (pe_lc (own := [("sign", 1)]) (g := gName 1) rfl sc__law_is_fixed.nd (pi_str (pv 0)) (blkOk_by (own := [("sign", 1)]) (N := ["part", "sign"]) (sc := defScope s__law_is_fixed) (by decide +kernel)) (fun _ _ _ _ _ => pg_name (i := 1) sc__law_is_fixed.nd rfl (Or.inl rfl)) (fun _ _ _ _ _ => pts_one (pt_cmpR op_notIn_sign (pv 1) (pe_df0 D__law_all_signs (hr.mono (by decide)) (by rfl)) (by rfl))) (fun _ _ _ _ _ => (pv 1))) (pe_lst pa_nil) (nomark _))))))), ?_⟩
    rcases hx.ty with ⟨z, rfl, hz, hzo⟩ | ⟨hn, a, ty, hk⟩
    · have q' : RetV (.bl (fixM z)) H Q := q
      unfold fixM at q'
      refine q_when (b := (!true) || isOpen z) (et_or (et_not (et_B (ev_isi (ev_var rfl) (.base (.str z)) (by decide +kernel)))) fun _ => et_test (ev_open rfl)) (fun hb H1 e1 => ?_) (fun hb H1 e1 => ?_)
      · rw [show isOpen z = true from hb] at q'
        exact s_ret ev_c fun H2 e2 => q' H2 (e1.trans e2)
      · rw [show isOpen z = false from hb] at q'
        refine s_ret (v := .bl ((decide ((1 : Int) ≤ (z.length : Int)) && decide ((z.length : Int) ≤ 4)) && z.cps.toList.all fun c => decide (c ∈ signsS.cps.toList))) (ev_andV ?_ fun _ => ?_) fun H2 e2 => q' H2 (e1.trans e2)
        · exact ev_chain ev_c (ev_lenS (ev_var rfl) (by omega)) ev_c rv_I0 rv_I0
        · refine ev_is (ev_opLL (el_lcT (σ := [some (.str z), none]) (H := H1) (tl := tVar 0) (te := tVar 1) (t := tTest (tOp _ (tVar 1) (tCall (spK (.str signsS)) [] E0 tNil))) (j := 1) (vs := [1]) (fun c => !decide (c ∈ signsS.cps.toList)) (fun c => .str ⟨#[c]⟩) (ev_var rfl) (by omega) (fun _ => rfl) (fun c H2 e2 hc => et_test (ev_op (ev_var rfl) (ev_call ea_nil sv_spK) rv_nsgn)) (fun c H2 e2 hc _ => ev_var rfl)) (el_lst ea_nil (Nat.zero_le _)) fun p q' H2 hp hq e2 => rv_eqL (sq_of hp) (sq_of hq) (el_bads hzo) (by simp)) (congrArg V.bl (none_bad z))
    · have e : fixV x = false := by
        cases x with
        | str z => exact absurd rfl (hn z)
        | _ => rfl
      rw [e] at q
      exact q_when (b := (!false) || false) (et_or (et_not (et_B (ev_isi (ev_var rfl) ty hk))) fun z => by cases z) (fun _ H1 e1 => s_ret ev_c fun H2 e2 => q H2 (e1.trans e2)) (fun hb => by cases hb)
def spFirst (K : PySem.W.Frag) : Sp := fun vs H Q _ => ∃ (a : Addr) (xs : List V), vs = [.ref a] ∧ SqL K H a xs ∧ xs.length ≤ 5 ∧ PVs H xs ∧ ∀ d H', Due xs d → Ex H H' → Q (.int d) H'
theorem ok__law_first_bad {f : Addr} {fd : FuncData} (F : Fun K "_law_first_bad" "_law_first_bad" s__law_first_bad f fd) (T : Txt K mg a_OPEN_PARTS C_Form C_GlueError C_NoChange C_NoCrew C_NoForm C_NoGrammar C_NoName C_NoOutput C_NoRow C_NoRows C_NoRule C_NoText C_NotEnough C_NotRight C_Pattern) (D__law_is_fixed : Df P w K mg base "_law_is_fixed" ["part"] 2 spFixed) : FnOk P w K mg base CX0 3 f fd ["parts"] (spFirst K) := by
  refine F.ok sc__law_first_bad (fun vs H Q E h => ?_) (fun cdv A outer s0 H vs Q E hr h => ?_)
  · obtain ⟨a, xs, rfl, _⟩ := h
    rfl
  · obtain ⟨a, xs, rfl, hA, hl, hpv, q⟩ := h
    refine ⟨_, (pss_cons (ps_for PassesOwn.never rfl (pi_range1 (by rfl) T.n_range (pa_cons (pe_callB call_len_seq (by rfl) T.n_len PySem.boot_len (pa_cons (pv 0) pa_nil)) pa_nil)) (pg_name (i := 1) sc__law_first_bad.nd rfl (Or.inl rfl))
      (pss_cons (ps_set (i := 2) sc__law_first_bad.nd rfl (Or.inl rfl) (pe_ix ix_list (pv 0) (pv 1) (fun _ _ => rfl)))
      (pss_cons (ps_set (i := 3) sc__law_first_bad.nd rfl (Or.inl rfl) (pe_and (pe_callB call_isi (by rfl) T.n_isinstance (by decide +kernel) (pa_cons (pv 2) (pa_cons (pe_bltn (v := .ty "str") (by rfl) T.n_str (by decide +kernel) rfl) pa_nil))) (pe_one (pe_cmpR op_in_seq (pv 2) (pe_tup (pa_cons pe_str (pa_cons pe_str (pa_cons pe_str pa_nil)))) (by rfl)))))
      (pss_cons (ps_if (PW.pt (pw_or (pt_cmpR op_gt (pv 1) pe_int (nomark _)) (pw_or1 (PW.pt (pw_and (pt_not (pt_val (pv 3))) (pw_and1 (pt_not (pt_val (pe_df D__law_is_fixed (hr.mono (by decide)) (by rfl) (pa_cons (pv 2) pa_nil))))))))))
      (pss_one (ps_ret (pv 1)))
      pss_nil)
      (pss_one (ps_if (PW.pt (pw_or (PW.pt (pw_and (pt_not (pt_val (pv 3))) (pw_and (pt_cmpR op_gt (pv 1) pe_int (nomark _)) (pw_and1 (pt_val (pe_df D__law_is_fixed (hr.mono (by decide)) (by rfl) (pa_cons (pe_ix ix_list (pv 0) (pe_op op_sub (pv 1) pe_int) (fun _ _ => rfl)) pa_nil))))))) (pw_or1 (PW.pt (pw_and (pt_cmpR op_eq (pv 2) pe_str (nomark _)) (pw_and1 (pt_cmpR op_in_seq pe_str (pe_slice sl_list (pv 0) po_none (po_some (pv 1))) (by rfl))))))))
      (pss_one (ps_ret (pv 1)))
      pss_nil))))))
      (pss_one (ps_ret (pe_un un_neg pe_int)))), ?_⟩
    refine q_forR1 (ea_cons (ev_lenL (ev_var rfl) hA) ea_nil) (by omega) (fun i σ' H' => ∃ y1 y2 y3 : Option V, σ' = [some (.ref a), y1, y2, y3] ∧ Ex H H' ∧ ∀ j < i, badAt xs j = false) (fun H1 e1 => ⟨_, _, _, rfl, e1, fun j hj => by omega⟩) ?_ ?_
    · rintro i σ' H1 hi ⟨y1, y2, y3, rfl, e1, hbf⟩
      have hi' : i < xs.length := by omega
      have hA1 := ex_l e1 hA
      have gx := getD_some hi'
      have px : PV H1 (xs.getD i .non) := (hpv _ (List.mem_of_getElem? gx)).ex e1
      refine q_asg (ev_op (ev_var rfl) (ev_var rfl) (rv_ixL hA1 (tup_at gx))) fun H2 e2 => ?_
      have px2 := px.ex e2
      have bd : badAt xs i = ((decide (3 < i) || (!freeV (xs.getD i .non) && !fixV (xs.getD i .non))) || ((!freeV (xs.getD i .non) && prevFix xs i) || (anyV (xs.getD i .non) && (xs.take i).any anyV))) := rfl
      generalize xs.getD i .non = x at px2 bd
      refine q_asg (v := .bl (freeV x)) ?_ fun H3 e3 => ?_
      · rcases px2.ty with ⟨z, rfl, _⟩ | ⟨hn, b, ty, hk⟩
        · exact ev_andV (a := true) (ev_isi (ev_var rfl) (.base (.str z)) (by decide +kernel)) fun _ => ev_open rfl
        · have e : freeV x = false := by
            cases x with
            | str z => exact absurd rfl (hn z)
            | _ => rfl
          rw [e]
          exact ev_andV (a := false) (b := false) (ev_isi (ev_var rfl) ty hk) fun z => by cases z
      have px3 := px2.ex e3
      have e13 := (e1.trans e2).trans e3
      refine q_when (b := decide (3 < i) || (!freeV x && !fixV x)) (et_or (et_test (ev_is (ev_op (ev_var rfl) ev_c rv_I0) (congrArg V.bl (by
        apply Bool.eq_iff_iff.mpr
        rw [decide_eq_true_iff, decide_eq_true_iff]
        omega)))) fun _ => et_and (et_not (et_B (ev_var rfl))) fun _ => et_not (et_B (ev_call (ea_cons (ev_var rfl) ea_nil) (sv_fixed px3)))) (fun hb H4 e4 => ?_) (fun hb H4 e4 => ?_)
      · exact s_ret (ev_var rfl) fun H5 e5 => q _ H5 (.inr ⟨i, hi', by rw [bd, hb]; rfl, hbf, rfl⟩) ((e13.trans e4).trans e5)
      rw [hb, Bool.false_or] at bd
      obtain ⟨hi3, hff⟩ := (Bool.or_eq_false_iff.mp hb)
      obtain ⟨z, rfl⟩ : ∃ z, x = .str z := by
        cases x with
        | str z => exact ⟨z, rfl⟩
        | _ => cases hff
      obtain ⟨ps, hps, _⟩ := take_strs (by omega) hbf
      have hA4 := ex_l (e13.trans e4) hA
      refine s_when (b := (!isOpen z && prevFix xs i) || (decide (z = anyP) && (xs.take i).any anyV)) (et_or (et_and (et_not (et_B (ev_var rfl))) fun _ => ?_) fun _ => et_and (et_test (ev_op (ev_var rfl) ev_c rv_eqS)) fun _ => ?_) (fun hc H5 e5 => ?_) (fun hc H5 e5 => ⟨_, _, _, rfl, (e13.trans e4).trans e5, fun j hj => ?_⟩)
      · unfold prevFix
        refine et_and (a := decide (0 < i)) (et_test (ev_is (ev_op (ev_var rfl) ev_c rv_I0) (congrArg V.bl gt_zero))) fun hd => ?_
        have hi0 := of_decide_eq_true hd
        have gp := getD_some (xs := xs) (k := i - 1) (by omega)
        refine et_B (ev_call (ea_cons (ev_op (ev_var rfl) (ev_op (ev_var rfl) ev_c rv_I0) (rv_ixL hA4 (by
          rw [show (i : Int) - 1 = ((i - 1 : Nat) : Int) by omega]
          exact tup_at gp))) ea_nil) (sv_fixed ((hpv _ (List.mem_of_getElem? gp)).ex (e13.trans e4))))
      · rw [hps, any_strs]
        refine et_test fun H5 e5 Q' q' => ?_
        refine ⟨_, rfl, _, rfl, _, rfl, a, xs, rfl, ex_l e5 hA4, fun r hr0 => ?_⟩
        rw [cutV_lt, hps]
        refine ⟨r, _, rfl, .inl (sq_of upd_same), rfl, flat_str _, ?_⟩
        have e6 := inV_str anyP ps
        show Q' (.bl (inV (.str anyP) (ps.map V.str))) _
        rw [e6]
        exact q' _ (Ex.new hr0)
      · exact s_ret (ev_var rfl) fun H6 e6 => q _ H6 (.inr ⟨i, hi', by rw [bd]; exact hc, hbf, rfl⟩) (((e13.trans e4).trans e5).trans e6)
      · rcases Nat.lt_succ_iff_lt_or_eq.mp hj with h | rfl
        · exact hbf j h
        · rw [bd]
          exact hc
    · rintro σ' H1 ⟨y1, y2, y3, rfl, e1, hbf⟩
      exact s_ret (ev_neg ev_c) fun H2 e2 => q _ H2 (.inl ⟨rfl, fun j hj => hbf j (by omega)⟩) (e1.trans e2)

/-! ### _is_allowed, of any parts -/
def spAllowX (K : PySem.W.Frag) : Sp := fun vs H Q _ => ∃ (t : Addr) (xs : List V) (i : Nat), vs = [.ref t, .int (i : Int)] ∧ SqT K H t xs ∧ xs.length ≤ 5 ∧ PVs H xs ∧ i < xs.length ∧ (∀ j < i, badAt xs j = false) ∧ RetV (.bl (!badAt xs i)) H Q
theorem ok__is_allowed {f : Addr} {fd : FuncData} (F : Fun K "_is_allowed" "_is_allowed" s__is_allowed f fd) (T : Txt K mg a_OPEN_PARTS C_Form C_GlueError C_NoChange C_NoCrew C_NoForm C_NoGrammar C_NoName C_NoOutput C_NoRow C_NoRows C_NoRule C_NoText C_NotEnough C_NotRight C_Pattern) (D_is_line : Df P w K mg base "is_line" ["thing"] 1 (spIsLine K)) : FnOk P w K mg base CX0 2 f fd ["parts", "at"] (spAllowX K) := by
  refine F.ok sc__is_allowed (fun vs H Q E h => ?_) (fun cdv A outer s0 H vs Q E hr h => ?_)
  · obtain ⟨t, xs, i, rfl, _⟩ := h
    rfl
  · obtain ⟨t, xs, i, rfl, hT, hl, hpv, hi, hbf, q⟩ := h
    refine ⟨_, (pss_cons (ps_set (i := 2) sc__is_allowed.nd rfl (Or.inl rfl) (pe_ix ix_tup (pv 0) (pv 1) (fun _ _ => rfl)))
      (pss_cons (ps_if (PW.pt (pw_or (pt_cmpR op_ge (pv 1) (pe_cst T.c_MOST_PARTS (by rfl)) (nomark _)) (pw_or1 (pt_not (pt_val (pe_callB call_isi (by rfl) T.n_isinstance (by decide +kernel) (pa_cons (pv 2) (pa_cons (pe_bltn (v := .ty "str") (by rfl) T.n_str (by decide +kernel) rfl) pa_nil))))))))
      (pss_one (ps_ret pe_bl))
      pss_nil)
      (pss_cons (ps_if (pt_cmpR op_eq (pv 2) (pe_cst T.c_ANY_SIGNS (by rfl)) (nomark _))
      (pss_one (ps_ret (pe_cmpR op_notIn_seq (pv 2) (pe_slice sl_tup (pv 0) po_none (po_some (pv 1))) (by rfl))))
      pss_nil)
      (pss_cons (ps_if (pt_cmpR op_in_seq (pv 2) (pe_cst T.c_OPEN_PARTS (by rfl)) (by rfl))
      (pss_one (ps_ret pe_bl))
      pss_nil)
      (pss_cons (ps_if (PW.pt (pw_and (pt_cmpR op_gt (pv 1) pe_int (nomark _)) (pw_and1 (pt_cmpR op_notIn_seq (pe_ix ix_tup (pv 0) (pe_op op_sub (pv 1) pe_int) (fun _ _ => rfl)) (pe_cst T.c_OPEN_PARTS (by rfl)) (by rfl)))))
      (pss_one (ps_ret pe_bl))
      pss_nil)
      (pss_one (ps_ret (pe_and (pe_df D_is_line (hr.mono (by decide)) (by rfl) (pa_cons (pv 2) pa_nil)) (pe_one (pe_cmpR op_le (pe_callB call_len_str (by rfl) T.n_len PySem.boot_len (pa_cons (pv 2) pa_nil)) (pe_cst T.c_MOST_SIGNS (by rfl)) (nomark _))))))))))), ?_⟩
    have gx := getD_some hi
    have px := hpv _ (List.mem_of_getElem? gx)
    refine q_asg (ev_op (ev_var rfl) (ev_var rfl) (rv_ixT hT (tup_at gx))) fun H1 e1 => ?_
    have bd : badAt xs i = ((decide (3 < i) || (!freeV (xs.getD i .non) && !fixV (xs.getD i .non))) || ((!freeV (xs.getD i .non) && prevFix xs i) || (anyV (xs.getD i .non) && (xs.take i).any anyV))) := rfl
    generalize xs.getD i .non = x at px bd
    have hge : decide ((4 : Int) ≤ (i : Int)) = decide (3 < i) := by
      apply Bool.eq_iff_iff.mpr
      rw [decide_eq_true_iff, decide_eq_true_iff]
      omega
    rcases px.ty with ⟨z, rfl, hz, hzo⟩ | ⟨hn, b, ty, hk⟩
    case inr =>
      have ef : freeV x = false ∧ fixV x = false := by
        cases x with
        | str z => exact absurd rfl (hn z)
        | _ => exact ⟨rfl, rfl⟩
      rw [ef.1, ef.2] at bd
      refine q_when (b := decide (3 < i) || (!false)) (et_or (et_test (ev_is (ev_op (ev_var rfl) ev_c rv_I0) (congrArg V.bl hge))) fun _ => et_not (et_B (ev_isi (ev_var rfl) (tyx_mono e1 ty) hk))) (fun hb H2 e2 => ?_) (fun hb => by simp at hb)
      rw [bd] at q
      refine s_ret ev_c fun H3 e3 => ?_
      have e4 : (!(decide (3 < i) || (!false && !false) || (!false && prevFix xs i || anyV x && (xs.take i).any anyV))) = false := by simp
      rw [e4] at q
      exact q H3 ((e1.trans e2).trans e3)
    obtain ⟨ps, hps, _⟩ := take_strs (by omega) hbf
    change badAt xs i = ((decide (3 < i) || (!isOpen z && !fixM z)) || ((!isOpen z && prevFix xs i) || (decide (z = anyP) && (xs.take i).any anyV))) at bd
    refine q_when (b := decide (3 < i) || (!true)) (et_or (et_test (ev_is (ev_op (ev_var rfl) ev_c rv_I0) (congrArg V.bl hge))) fun _ => et_not (et_B (ev_isi (ev_var rfl) (.base (.str z)) (by decide +kernel)))) (fun hb H2 e2 => ?_) (fun hb H2 e2 => ?_)
    · have hb' : decide (3 < i) = true := by simpa using hb
      rw [hb'] at bd
      rw [bd] at q
      exact s_ret ev_c fun H3 e3 => q H3 ((e1.trans e2).trans e3)
    have hb' : decide (3 < i) = false := by simpa using hb
    rw [hb', Bool.false_or] at bd
    have hT2 := ex_t (e1.trans e2) hT
    refine q_when (b := decide (z = anyP)) (et_test (ev_op (ev_var rfl) ev_c rv_eqS)) (fun hc H3 e3 => ?_) (fun hc H3 e3 => ?_)
    · have hza := of_decide_eq_true hc
      subst hza
      have ho : isOpen anyP = true := by decide +kernel
      rw [ho, hps, any_strs] at bd
      have bd2 : badAt xs i = decide (anyP ∈ ps) := by
        rw [bd]
        simp
      refine s_ret (v := .bl (!decide (anyP ∈ ps))) (fun H4 e4 Q' q' => ?_) fun H4 e4 => ?_
      · refine ⟨_, rfl, _, rfl, _, rfl, _, rfl, t, xs, rfl, ex_t (e3.trans e4) hT2, ?_, fun r hr0 => ?_⟩
        · rintro ⟨_, he⟩
          rw [HT.sIx_nat] at he
          omega
        · refine ⟨r, _, rfl, .inr (st_of upd_same), rfl, ?_, ?_⟩
          · rw [cutV_lt, hps]
            exact flat_str _
          · rw [cutV_lt, hps]
            show Q' (.bl (!inV (.str anyP) (ps.map V.str))) _
            rw [inV_str]
            exact q' _ (Ex.new hr0)
      · rw [bd2] at q
        exact q H4 (((e1.trans e2).trans e3).trans e4)
    · rw [hc] at bd
      have e13 := (e1.trans e2).trans e3
      refine q_when (b := isOpen z) (et_test (ev_op (ev_var rfl) ev_c (rv_isT T.o_OPEN_PARTS.at_ rfl rfl))) (fun hd H4 e4 => ?_) (fun hd H4 e4 => ?_)
      · rw [hd] at bd
        have bd2 : badAt xs i = false := by
          rw [bd]
          rfl
        rw [bd2] at q
        exact s_ret ev_c fun H5 e5 => q H5 ((e13.trans e4).trans e5)
      · rw [hd] at bd
        have bd2 : badAt xs i = (!fixM z || prevFix xs i) := by
          rw [bd]
          simp
        rw [bd2] at q
        have hT4 := ex_t (e3.trans e4) hT2
        refine q_when (b := prevFix xs i) ?_ (fun he H5 e5 => ?_) (fun he H5 e5 => ?_)
        · unfold prevFix
          refine et_and (a := decide (0 < i)) (et_test (ev_is (ev_op (ev_var rfl) ev_c rv_I0) (congrArg V.bl gt_zero))) fun hd => ?_
          have hi0 := of_decide_eq_true hd
          have gp := getD_some (xs := xs) (k := i - 1) (by omega)
          obtain ⟨y, hy, hyo⟩ := good_str (hbf (i - 1) (by omega))
          rw [hy] at gp ⊢
          refine et_test (ev_is (ev_op (ev_op (ev_var rfl) (ev_op (ev_var rfl) ev_c rv_I0) (rv_ixT hT4 (by
            rw [show (i : Int) - 1 = ((i - 1 : Nat) : Int) by omega]
            exact tup_at gp))) ev_c (rv_niT T.o_OPEN_PARTS.at_ rfl rfl)) ?_)
          show V.bl (!isOpen y) = V.bl (fixM y)
          cases hyo' : isOpen y with
          | true =>
            unfold fixM
            rw [hyo']
            rfl
          | false =>
            rcases hyo with h | h
            · rw [hyo'] at h
              cases h
            · rw [h]
              rfl
        · rw [he, Bool.or_true] at q
          exact s_ret ev_c fun H6 e6 => q H6 (((e13.trans e4).trans e5).trans e6)
        · rw [he, Bool.or_false] at q
          have ef : fixM z = (isLn z && decide ((z.length : Int) ≤ 4)) := by
            unfold fixM isLn
            rw [hd]
            have e0 : decide ((1 : Int) ≤ (z.length : Int)) = decide ((0 : Int) < (z.length : Int)) := by
              apply Bool.eq_iff_iff.mpr
              rw [decide_eq_true_iff, decide_eq_true_iff]
              omega
            rw [e0]
            cases decide ((0 : Int) < (z.length : Int)) <;> cases decide ((z.length : Int) ≤ 4) <;> cases z.cps.toList.all fun c => decide (c ∈ signsS.cps.toList) <;> rfl
          rw [ef, Bool.not_not] at q
          exact s_ret (ev_andV (ev_call (z := .bl (isLn z)) (ea_cons (ev_var rfl) ea_nil) fun H6 e6 Q' q' E' => ⟨_, rfl, .inl ⟨z, rfl, by omega, q'⟩⟩) fun _ => ev_op (ev_lenS (ev_var rfl) (by omega)) ev_c rv_I0) fun H6 e6 => q H6 (((e13.trans e4).trans e5).trans e6)

/-- a Form of these parts -/
theorem kPC : ¬ (("_cells" : Str) = "_parts") := by decide +kernel
def formF (t c : Addr) : List (Str × V) := putF "_cells" (.ref c) (putF "_parts" (.ref t) [])
theorem formF_parts (t c : Addr) : (formF t c).lookup ("_parts" : Str) = some (.ref t) := by
  unfold formF
  rw [lookup_putF, if_neg (fun z => kPC z.symm), lookup_putF, if_pos rfl]
theorem formF_cells (t c : Addr) : (formF t c).lookup ("_cells" : Str) = some (.ref c) := by
  unfold formF
  rw [lookup_putF, if_pos rfl]
theorem formF_no (t c : Addr) {m : Str} (h1 : ¬ m = "_cells") (h2 : ¬ m = "_parts") : (formF t c).lookup m = none := by
  unfold formF
  rw [lookup_putF, if_neg h1, lookup_putF, if_neg h2]
  all_goals rfl
def FormAt (C : Addr) (H : Hp) (a : Addr) (ps : List Str) : Prop := ∃ dx t c : Addr, H a = some (.ins C dx (formF t c)) ∧ H t = some (.tup (ps.map V.str)) ∧ H c = some (.lst ((cellsM ps).map V.str))
theorem FormAt.ex {C : Addr} {H H' : Hp} {a : Addr} {ps : List Str} (h : FormAt C H a ps) (e : Ex H H') : FormAt C H' a ps := by
  obtain ⟨dx, t, c, h1, h2, h3⟩ := h
  exact ⟨dx, t, c, e _ _ h1, e _ _ h2, e _ _ h3⟩

/-- parts() -/
def spParts (C : Addr) : Sp := fun vs H Q _ => ∃ (a : Addr) (ps : List Str), vs = [.ref a] ∧ FormAt C H a ps ∧ ∀ t H', Ex H H' → H t = some (.tup (ps.map V.str)) → Q (.ref t) H'
theorem ok_Form_parts {f : Addr} {fd : FuncData} (F : Fun K "parts" "Form.parts" s_Form_parts f fd) (T : Txt K mg a_OPEN_PARTS C_Form C_GlueError C_NoChange C_NoCrew C_NoForm C_NoGrammar C_NoName C_NoOutput C_NoRow C_NoRows C_NoRule C_NoText C_NotEnough C_NotRight C_Pattern) : FnOk P w K mg base CX0 1 f fd ["self"] (spParts C_Form) := by
  refine F.ok sc_Form_parts (fun vs H Q E h => ?_) (fun cdv A outer s0 H vs Q E hr h => ?_)
  · obtain ⟨a, ps, rfl, _⟩ := h
    rfl
  · obtain ⟨a, ps, rfl, ⟨dx, t, c, h1, h2, h3⟩, q⟩ := h
    refine ⟨_, (pss_one (ps_ret (pe_fld (pv 0) rfl))), ?_⟩
    exact ⟨_, rfl, a, C_Form, dx, _, _, rfl, h1, T.k_Form, T.a_Form__parts, formF_parts t c, q t H (Ex.refl _) h2⟩

def spPT (f : Int × Int → Str × (Int × Int)) : Sp := fun vs H Q _ => ∃ (p : Addr) (s : Int × Int), vs = [.ref p] ∧ H p = some (pl s) ∧ Pk s ∧ RetP p (f s).2 (.str (f s).1) H Q
theorem evp_pt {f : Int × Int → Str × (Int × Int)} {σ : L2.St} {G : Hp} {p : Addr} {s : Int × Int} {i : Nat} (hi : σ[i]? = some (some (.ref p))) (hk : Pk s) :
    EvP (tCall (spPT f) [] E0 (tCons (tVar i) tNil)) σ G p s (.str (f s).1) (f s).2 :=
  evp_call (EvAP.of (ea_cons (ev_var hi) ea_nil)) fun H k Q q _ => ⟨p, s, rfl, k.at_, hk, q⟩
/-! ### drawn parts: texts, and what is no text -/
def goodT (st : Str × (Int × Int)) : Str × (Int × Int) := (st.1 ++ ⟨#[sgn signsS (take st.2 68).1]⟩, (take st.2 68).2)
def goodN : Nat → Str × (Int × Int) → Str × (Int × Int)
  | 0, st => st
  | i + 1, st => goodT (goodN i st)
def lawGood (s : Int × Int) : Str × (Int × Int) := goodN (1 + (take s 4).1).toNat (("" : Str), (take s 4).2)
theorem goodN_ok {s : Int × Int} (h : Pk s) : ∀ n, Pk (goodN n (("" : Str), s)).2 ∧ Lny (goodN n (("" : Str), s)).1 ∧ (goodN n (("" : Str), s)).1.length = n
  | 0 => ⟨h, lny_nil, by
    show ("" : Str).length = 0
    decide +kernel⟩
  | n + 1 => by
    obtain ⟨h1, h2, h3⟩ := goodN_ok h n
    have t1 := take_lt (s := (goodN n (("" : Str), s)).2) (n := 68) (by decide)
    exact ⟨take_pk h1, lny_app h2 (lny_sgn (fun _ z => z) t1.1 (by rw [len_signs]; exact t1.2)), (app1_len _ _).trans (by rw [h3])⟩
theorem lawGood_ok {s : Int × Int} (h : Pk s) : Pk (lawGood s).2 ∧ Lny (lawGood s).1 ∧ 1 ≤ (lawGood s).1.length ∧ (lawGood s).1.length ≤ 4 := by
  have t2 := take_lt (s := s) (n := 4) (by decide)
  obtain ⟨h1, h2, h3⟩ := goodN_ok (take_pk (n := 4) h) (1 + (take s 4).1).toNat
  exact ⟨h1, h2, by unfold lawGood; omega, by unfold lawGood; omega⟩
theorem ok__law_good {f : Addr} {fd : FuncData} (F : Fun K "_law_good" "_law_good" s__law_good f fd) (T : Txt K mg a_OPEN_PARTS C_Form C_GlueError C_NoChange C_NoCrew C_NoForm C_NoGrammar C_NoName C_NoOutput C_NoRow C_NoRows C_NoRule C_NoText C_NotEnough C_NotRight C_Pattern) (D__law_take : Df P w K mg base "_law_take" ["pool", "many"] 1 spTake)
    (D__law_all_signs : Df P w K mg base "_law_all_signs" [] 1 (spK (.str signsS))) : FnOk P w K mg base CX0 2 f fd ["pool"] (spPT lawGood) := by
  refine F.ok sc__law_good (fun vs H Q E h => ?_) (fun cdv A outer s0 H vs Q E hr h => ?_)
  · obtain ⟨p, s, rfl, _⟩ := h
    rfl
  · obtain ⟨p, s, rfl, hp, hk, q⟩ := h
    refine ⟨_, (pss_cons (ps_set (i := 1) sc__law_good.nd rfl (Or.inl rfl) pe_str)
      (pss_cons (ps_for PassesOwn.never rfl (pi_range1 (by rfl) T.n_range (pa_cons (pe_op op_add pe_int (pe_df D__law_take (hr.mono (by decide)) (by rfl) (pa_cons (pv 0) (pa_cons pe_int pa_nil)))) pa_nil)) (pg_name (i := 2) sc__law_good.nd rfl (Or.inl rfl))
      (pss_one (ps_set (i := 1) sc__law_good.nd rfl (Or.inl rfl) (pe_op op_add_str (pv 1) (pe_ix ix_str (pe_df0 D__law_all_signs (hr.mono (by decide)) (by rfl)) (pe_df D__law_take (hr.mono (by decide)) (by rfl) (pa_cons (pv 0) (pa_cons pe_int pa_nil))) (fun _ _ => rfl))))))
      (pss_one (ps_ret (pv 1))))), ?_⟩
    have K0 := Kn.here hp
    refine q_asg ev_c fun H1 e1 => ?_
    have K1 := K0.same e1
    have t4 := take_lt (s := s) (n := 4) (by decide)
    refine qp_forR1 K1 (eap_cons (evp_op (EvP.of ev_c) (evp_take rfl hk (by decide) (by decide)) rv_add) eap_nil) ⟨by omega, by omega⟩
      (fun i σ' H' => ∃ y : Option V, σ' = [some (.ref p), some (.str (goodN i (("" : Str), (take s 4).2)).1), y] ∧ Kn (hide p H) p (goodN i (("" : Str), (take s 4).2)).2 H' ∧ i ≤ 4)
      (fun H3 K3 e3 => ⟨none, rfl, K3, by omega⟩) ?_ ?_
    · rintro i σ' H' hi ⟨y, rfl, K3, hi7⟩
      obtain ⟨hk3, hny, hlen⟩ := goodN_ok (take_pk (n := 4) hk) i
      have hst1 : goodN (i + 1) (("" : Str), (take s 4).2) = goodT (goodN i (("" : Str), (take s 4).2)) := rfl
      rw [hst1]
      generalize goodN i (("" : Str), (take s 4).2) = st at K3 hk3 hny hlen ⊢
      have t9 := take_lt (s := st.2) (n := 68) (by decide)
      refine sp_asg K3 (evp_op (EvP.of (ev_var rfl)) (evp_op (EvP.of (ev_call ea_nil sv_spK)) (evp_take rfl hk3 (by decide) (by decide)) (rv_ixS (by decide +kernel) (sgn_ix t9.1 (by rw [len_signs]; exact t9.2)))) (rv_cat ?_)) fun H5 K5 e5 => ⟨_, rfl, K5, by omega⟩
      show st.1.length + 1 ≤ 100000
      omega
    · rintro σ' H' ⟨y, rfl, K3, _⟩
      exact s_ret (ev_var rfl) fun H4 e4 => q H4 (hx_trans K3.ex (hx_of e4)) (e4 p _ K3.at_)
theorem okS_lny {z : Str} (h : Lny z) (l : z.length ≤ 100) : okS z := ⟨l, lny_ok h⟩
/-- what _law_bad may hand back: nothing of it rests on what stood before -/
def spBad : Sp := fun vs H Q _ => ∃ (p : Addr) (s : Int × Int), vs = [.ref p] ∧ H p = some (pl s) ∧ Pk s ∧ ∀ (x : V) (s' : Int × Int) (H' : Hp), Pk s' → Ex (hide p H) H' → H' p = some (pl s') → PV H' x → (∀ r, x = .ref r → H r = none) → Q x H'
def badS : Str := "&(_<~"
theorem okv_app {a b : Str} (ha : okV (.str a) = true) (hb : okV (.str b) = true) : okV (.str (a ++ b)) = true := by
  have e : ∀ z : Str, okV (.str z) = z.cps.all fun x => decide (x < 0x110000) := fun _ => rfl
  rw [e] at ha hb ⊢
  rw [← Array.all_toList] at ha hb ⊢
  have : (a ++ b).cps.toList = a.cps.toList ++ b.cps.toList := app_list a b
  rw [this, List.all_append, ha, hb]
  rfl
theorem okv_rep1 {c : Nat} (h : okV (.str ⟨#[c]⟩) = true) : okS (repS ⟨#[c]⟩ 5) := by
  have h1 := okv_app (okv_app (okv_app (okv_app (okv_app (a := "") (by decide +kernel) h) h) h) h) h
  refine ⟨?_, ?_⟩
  · have : repS ⟨#[c]⟩ 5 = ⟨#[c, c, c, c, c]⟩ := by rfl
    rw [this]
    show 5 ≤ 100
    omega
  · exact h1
/-- [a, b, c][k - 4] -/
theorem ev_ixNew {σ : L2.St} {H : Hp} {i : Nat} {a b c v : V} {n m : Int} (hv : atI [a, b, c] (n - m) = some v) (hi : σ[i]? = some (some (.int n)) := by rfl) :
    Ev (tOp (rIxL K) (tLst (tCons (tC a) (tCons (tC b) (tCons (tC c) tNil)))) (tOp (rI0 fun i j => .int (i - j)) (tVar i) (tC (.int m)))) σ H v := fun H1 e Q q =>
  el_lst (ea_cons ev_c (ea_cons ev_c (ea_cons ev_c ea_nil))) (by simp) H1 e _ fun p H2 hp e2 h2 => ev_op (ev_var hi) ev_c rv_I0 H2 (Ex.refl _) _ fun H3 e3 => rv_ixL (sq_of (e3 _ _ h2)) hv H3 (Ex.refl _) Q fun H4 e4 => q H4 ((e2.trans e3).trans e4)
theorem ok__law_bad {f : Addr} {fd : FuncData} (F : Fun K "_law_bad" "_law_bad" s__law_bad f fd) (T : Txt K mg a_OPEN_PARTS C_Form C_GlueError C_NoChange C_NoCrew C_NoForm C_NoGrammar C_NoName C_NoOutput C_NoRow C_NoRows C_NoRule C_NoText C_NotEnough C_NotRight C_Pattern) (D__law_take : Df P w K mg base "_law_take" ["pool", "many"] 1 spTake)
    (D__law_good : Df P w K mg base "_law_good" ["pool"] 2 (spPT lawGood)) : FnOk P w K mg base CX0 3 f fd ["pool"] spBad := by
  refine F.ok sc__law_bad (fun vs H Q E h => ?_) (fun cdv A outer s0 H vs Q E hr h => ?_)
  · obtain ⟨p, s, rfl, _⟩ := h
    rfl
  · obtain ⟨p, s, rfl, hp, hk, q⟩ := h
    refine ⟨_, (pss_cons (ps_set (i := 1) sc__law_bad.nd rfl (Or.inl rfl) (pe_lst (pa_cons pe_str (pa_cons (pe_op op_mulS (pe_ix ix_str (pe_df D__law_good (hr.mono (by decide)) (by rfl) (pa_cons (pv 0) pa_nil)) pe_int (fun _ _ => rfl)) pe_int) (pa_cons (pe_op op_add_str pe_str (pe_ix ix_str pe_str (pe_df D__law_take (hr.mono (by decide)) (by rfl) (pa_cons (pv 0) (pa_cons pe_int pa_nil))) (fun _ _ => rfl))) (pa_cons pe_str (pa_cons pe_str (pa_cons pe_str (pa_cons pe_str pa_nil)))))))))
      (pss_cons (ps_set (i := 1) sc__law_bad.nd rfl (Or.inl rfl) (pe_op op_cat (pv 1) (pe_lst (pa_cons pe_non (pa_cons pe_int (pa_cons pe_bl (pa_cons (pe_lst (pa_cons pe_str pa_nil)) pa_nil)))))))
      (pss_one (ps_ret (pe_ix ix_list (pv 1) (pe_df D__law_take (hr.mono (by decide)) (by rfl) (pa_cons (pv 0) (pa_cons pe_int pa_nil))) (fun _ _ => rfl)))))), ?_⟩
    have K0 := Kn.here hp
    obtain ⟨hk1, hg, hg1, hg4⟩ := lawGood_ok hk
    have ix0 : sgn (lawGood s).1 0 ∈ signsS.cps.toList := hg _ (sgn_mem (by omega) (by omega))
    have t5 := take_lt (s := (lawGood s).2) (n := 5) (by decide)
    have hk2 : Pk (take (lawGood s).2 5).2 := take_pk hk1
    refine qp_asgLst K0 (eap_cons (EvP.of ev_c) (eap_cons (evp_op (evp_op (evp_pt rfl hk) (EvP.of ev_c) (rv_ixS (by omega) (sgn_ix (d := 0) (by omega) (by omega)))) (EvP.of ev_c) (rv_rep (by decide) (by decide) (by show 1 ≤ 1000; omega)))
      (eap_cons (evp_op (EvP.of ev_c) (evp_op (EvP.of ev_c) (evp_take rfl hk1 (by decide) (by decide)) (rv_ixS (w := badS) (by decide +kernel) (sgn_ix t5.1 (by rw [show badS.length = 5 by decide +kernel]; exact t5.2)))) (rv_cat (by show (1 : Nat) + 1 ≤ 100000; omega)))
      (eap_cons (EvP.of ev_c) (eap_cons (EvP.of ev_c) (eap_cons (EvP.of ev_c) (eap_cons (EvP.of ev_c) eap_nil))))))) (by simp) fun l H1 K1 e1 h1 => ?_
    have b2 : okS (repS ⟨#[sgn (lawGood s).1 0]⟩ (5 : Int).toNat) := okv_rep1 (lny_ok (lny_1 ix0))
    have b3 : okS (("a" : Str) ++ ⟨#[sgn badS (take (lawGood s).2 5).1]⟩) := ⟨by rw [app1_len]; decide +kernel, okv_app (by decide +kernel) (by
      have hm := sgn_mem (z := badS) t5.1 (by rw [show badS.length = 5 by decide +kernel]; exact t5.2)
      have : ∀ c ∈ badS.cps.toList, okV (.str ⟨#[c]⟩) = true := by decide +kernel
      exact this _ hm)⟩
    generalize repS ⟨#[sgn (lawGood s).1 0]⟩ (5 : Int).toNat = z2 at h1 b2
    generalize (("a" : Str) ++ ⟨#[sgn badS (take (lawGood s).2 5).1]⟩) = z3 at h1 b3
    refine ⟨_, rfl, sz_of (by simp), fun r hr0 => ⟨sz_of (by simp), fun m hm0 => ?_⟩⟩
    have nrm : r ≠ m := fun z => by
      rw [← z, upd_same] at hm0
      cases hm0
    have nlr : l ≠ r := ne_of_none h1 hr0
    have nlm : l ≠ m := fun z => by
      rw [← z, upd_ne nlr, h1] at hm0
      cases hm0
    refine ⟨l, m, _, _, rfl, rfl, by rw [upd_ne nlm, upd_ne nlr]; exact h1, upd_same, sz_of (by simp), fun n hn0 => ?_⟩
    generalize hH2 : upd (upd H1 r _) m _ = H2 at hn0
    have e2 : Ex H1 H2 := by
      rw [← hH2]
      exact (Ex.new hr0).trans (Ex.new hm0)
    have h2r : H2 r = some (.lst [.str ("a" : Str)]) := by
      rw [← hH2, upd_ne nrm, upd_same]
    have npn : n ≠ p := fun z => by
      rw [z, e2 _ _ K1.at_] at hn0
      cases hn0
    have nrp : H r = none := by
      cases hr : H r with
      | none => rfl
      | some o =>
        by_cases e : r = p
        · rw [e, K1.at_] at hr0
          cases hr0
        · rw [e1 r o (by rw [hide_ne e]; exact hr)] at hr0
          cases hr0
    have t11 := take_lt (s := (take (lawGood s).2 5).2) (n := 11) (by decide)
    obtain ⟨xs, hxs⟩ : ∃ xs : List V, xs = [V.str ("" : Str), .str z2, .str z3, .str ("<Any>" : Str), .str ("<digit>" : Str), .str ("<word> " : Str), .str ("<>" : Str), .non, .int 5, .bl true, .ref r] := ⟨_, rfl⟩
    obtain ⟨v, hv, hvm⟩ := at_mem (xs := xs) t11.1 (by rw [hxs]; exact t11.2)
    obtain ⟨H3, hH3⟩ : ∃ H3, H3 = upd H2 n (.lst xs) := ⟨_, rfl⟩
    have e3 : Ex H2 H3 := by
      rw [hH3]
      exact Ex.new hn0
    have h3 : H3 n = some (.lst xs) := by rw [hH3, upd_same]
    have K3 : Kn (hide p H3) p (take (lawGood s).2 5).2 H3 := Kn.here (e3 _ _ (e2 _ _ K1.at_))
    have fin : tRet (tOp (rIxL K) (tVar 1) (tCall spTake [] E0 (tCons (tVar 0) (tCons (tC (.int 11)) tNil)))) { nx := fun _ H' => Q .non H', rt := Q } [some (.ref p), some (.ref n)] H3 := by
      refine sp_ret K3 (evp_op (EvP.of (ev_var rfl)) (evp_take rfl hk2 (by decide) (by decide)) (rv_ixL (sq_of (by rw [hide_ne npn]; exact h3)) hv)) fun H4 K4 e4 => ?_
      have e34 : Ex (hide p H) H4 := hx_trans e1 (hx_trans (hx_of (e2.trans e3)) e4)
      have h4 : H4 r = some (.lst [.str ("a" : Str)]) := e4 _ _ (by rw [hide_ne (fun z => by rw [z, K1.at_] at hr0; cases hr0)]; exact e3 _ _ h2r)
      rw [hxs] at hvm
      refine q v _ H4 (take_pk hk2) e34 K4.at_ ?_ ?_
      · simp only [List.mem_cons, List.not_mem_nil, or_false] at hvm
        rcases hvm with rfl | rfl | rfl | rfl | rfl | rfl | rfl | rfl | rfl | rfl | rfl
        · exact .str ⟨by decide +kernel, by decide +kernel⟩
        · exact .str b2
        · exact .str b3
        · exact .str ⟨by decide +kernel, by decide +kernel⟩
        · exact .str ⟨by decide +kernel, by decide +kernel⟩
        · exact .str ⟨by decide +kernel, by decide +kernel⟩
        · exact .str ⟨by decide +kernel, by decide +kernel⟩
        · exact .non
        · exact .int 5
        · exact .bl true
        · exact .lst h4
      · rintro r' rfl
        simp at hvm
        rw [hvm]
        exact nrp
    rw [hH3, hxs] at fin
    exact fin
def spDrawn : Sp := fun vs H Q _ => ∃ (p : Addr) (s : Int × Int), vs = [.ref p] ∧ H p = some (pl s) ∧ Pk s ∧ ∀ (l : Addr) (xs : List V) (s' : Int × Int) (H' : Hp), H l = none → Pk s' → Ex (hide p H) H' → H' p = some (pl s') → H' l = some (.lst xs) → xs.length ≤ 5 → PVs H' xs → Q (.ref l) H'
theorem hide_ex {p : Addr} {H H' : Hp} (e : Ex H H') : Ex (hide p H) (hide p H') := fun a o h => by
  obtain ⟨n, h⟩ := hide_some h
  rw [hide_ne n]
  exact e a o h
theorem ok__law_drawn {f : Addr} {fd : FuncData} (F : Fun K "_law_drawn" "_law_drawn" s__law_drawn f fd) (T : Txt K mg a_OPEN_PARTS C_Form C_GlueError C_NoChange C_NoCrew C_NoForm C_NoGrammar C_NoName C_NoOutput C_NoRow C_NoRows C_NoRule C_NoText C_NotEnough C_NotRight C_Pattern) (D__law_take : Df P w K mg base "_law_take" ["pool", "many"] 1 spTake)
    (D__law_good : Df P w K mg base "_law_good" ["pool"] 2 (spPT lawGood)) (D__law_bad : Df P w K mg base "_law_bad" ["pool"] 3 spBad) : FnOk P w K mg base CX0 4 f fd ["pool"] spDrawn := by
  refine F.ok sc__law_drawn (fun vs H Q E h => ?_) (fun cdv A outer s0 H vs Q E hr h => ?_)
  · obtain ⟨p, s, rfl, _⟩ := h
    rfl
  · obtain ⟨p, s, rfl, hp, hk, q⟩ := h
    refine ⟨_, (pss_cons (ps_set (i := 1) sc__law_drawn.nd rfl (Or.inl rfl) (pe_lst pa_nil))
      (pss_cons (ps_set (i := 2) sc__law_drawn.nd rfl (Or.inl rfl) (pe_cmpR op_eq (pe_df D__law_take (hr.mono (by decide)) (by rfl) (pa_cons (pv 0) (pa_cons pe_int pa_nil))) pe_int (nomark _)))
      (pss_cons (ps_for PassesOwn.never rfl (pi_range1 (by rfl) T.n_range (pa_cons (pe_df D__law_take (hr.mono (by decide)) (by rfl) (pa_cons (pv 0) (pa_cons pe_int pa_nil))) pa_nil)) (pg_name (i := 3) sc__law_drawn.nd rfl (Or.inl rfl))
      (pss_cons (ps_set (i := 4) sc__law_drawn.nd rfl (Or.inl rfl) (pe_df D__law_take (hr.mono (by decide)) (by rfl) (pa_cons (pv 0) (pa_cons pe_int pa_nil))))
      (pss_one (ps_if (PW.pt (pw_and (pt_val (pv 2)) (pw_and1 (pt_cmpR op_eq (pe_df D__law_take (hr.mono (by decide)) (by rfl) (pa_cons (pv 0) (pa_cons pe_int pa_nil))) pe_int (nomark _)))))
      (pss_one (ps_expr (pe_bm PySem.F.plainAttrs_list PySem.F.slot_list_append PySem.F.type_list_append mt_append (pv 1) (pa_cons (pe_df D__law_bad (hr.mono (by decide)) (by rfl) (pa_cons (pv 0) pa_nil)) pa_nil))))
      (pss_one (ps_if (pt_cmpR op_lt (pv 4) pe_int (nomark _))
      (pss_one (ps_expr (pe_bm PySem.F.plainAttrs_list PySem.F.slot_list_append PySem.F.type_list_append mt_append (pv 1) (pa_cons (pe_df D__law_good (hr.mono (by decide)) (by rfl) (pa_cons (pv 0) pa_nil)) pa_nil))))
      (pss_one (ps_expr (pe_bm PySem.F.plainAttrs_list PySem.F.slot_list_append PySem.F.type_list_append mt_append (pv 1) (pa_cons (pe_ix ix_list (pe_lst (pa_cons pe_str (pa_cons pe_str (pa_cons pe_str pa_nil)))) (pe_op op_sub (pv 4) pe_int) (fun _ _ => rfl)) pa_nil))))))))))
      (pss_one (ps_ret (pv 1)))))), ?_⟩
    have K0 := Kn.here hp
    refine q_asgL (el_lst ea_nil (Nat.zero_le _)) fun l H1 hl0 e1 h1 => ?_
    have K1 := K0.same e1
    have nlp : l ≠ p := fun z => by
      rw [z, hp] at hl0
      cases hl0
    have hk1 : Pk (take s 3).2 := take_pk hk
    refine qp_asg K1 (evp_op (evp_take rfl hk (by decide) (by decide)) (EvP.of ev_c) rv_eqI) fun H2 K2 e2 => ?_
    have h2 : H2 l = some (.lst []) := e2 _ _ (by rw [hide_ne nlp]; exact h1)
    have t6 := take_lt (s := (take s 3).2) (n := 6) (by decide)
    generalize decide ((take s 3).1 = 0) = bad
    refine qp_forR1 K2 (eap_cons (evp_take rfl hk1 (by decide) (by decide)) eap_nil) ⟨by omega, by omega⟩
      (fun i σ' H' => ∃ (y1 y2 : Option V) (xs : List V) (s' : Int × Int), σ' = [some (.ref p), some (.ref l), some (.bl bad), y1, y2] ∧ Kn (hide p H) p s' H' ∧ Pk s' ∧ H' l = some (.lst xs) ∧ xs.length = i ∧ PVs (hide l (hide p H')) xs ∧ i ≤ 5)
      (fun H3 K3 e3 => ⟨none, none, [], _, rfl, K3, take_pk hk1, e3 _ _ (by rw [hide_ne nlp]; exact h2), rfl, fun x hx => (nomatch hx), by omega⟩) ?_ ?_
    · rintro i σ' H' hi ⟨y1, y2, xs, s1, rfl, K3, hk3, h3, hxl, hpv, hi5⟩
      have hi6 : i + 1 ≤ 5 := by omega
      have hk4 : Pk (take s1 7).2 := take_pk hk3
      have t7 := take_lt (s := s1) (n := 7) (by decide)
      refine qp_asg K3 (evp_take rfl hk3 (by decide) (by decide)) fun H4 K4 e4 => ?_
      have h4 : H4 l = some (.lst xs) := e4 _ _ (by rw [hide_ne nlp]; exact h3)
      have hpv4 : PVs (hide l (hide p H4)) xs := hpv.ex (hide_ex (hx_hide e4))
      have big : xs.length < 100000 := by omega
      have done : ∀ (x : V) (s' : Int × Int) (H5 : Hp) (y1 y2 : Option V), Kn (hide p H) p s' H5 → Pk s' → H5 l = some (.lst xs) → PVs (hide l (hide p H5)) xs → PV (hide l (hide p H5)) x → (∃ (y1' y2' : Option V) (xs' : List V) (s'' : Int × Int), ([some (.ref p), some (.ref l), some (.bl bad), y1, y2] : L2.St) = [some (.ref p), some (.ref l), some (.bl bad), y1', y2'] ∧ Kn (hide p H) p s'' (upd H5 l (.lst (xs ++ [x]))) ∧ Pk s'' ∧ (upd H5 l (.lst (xs ++ [x]))) l = some (.lst xs') ∧ xs'.length = i + 1 ∧ PVs (hide l (hide p (upd H5 l (.lst (xs ++ [x]))))) xs' ∧ i + 1 ≤ 5) := by
        intro x s' H5 z1 z2 K5 hk5 h5 hpv5 hx
        refine ⟨z1, z2, xs ++ [x], s', rfl, K5.mut (by rw [hide_ne nlp]; exact hl0) (Ne.symm nlp), hk5, upd_same, by rw [List.length_append, hxl]; rfl, (hpv5.snoc hx).ex ?_, hi6⟩
        intro b o hb
        obtain ⟨n1, hb⟩ := hide_some hb
        rw [hide_ne n1]
        obtain ⟨n2, hb⟩ := hide_some hb
        rw [hide_ne n2, upd_ne n1]
        exact hb
      refine sp_if K4 (evtp_andI (EvTP.of (et_B (ev_var rfl))) fun _ => evtp_test (evp_op (evp_take rfl hk4 (by decide) (by decide)) (EvP.of ev_c) rv_eqI)) (fun hb H5 K5 e5 => ?_) (fun hb H5 K5 e5 => ?_)
      · have hbad : bad = true := (Bool.and_eq_true _ _ ▸ hb).1
        rw [if_pos hbad] at K5
        have h5 : H5 l = some (.lst xs) := e5 _ _ (by rw [hide_ne nlp]; exact h4)
        have hpv5 := hpv4.ex (hide_ex (p := l) (hx_hide e5))
        refine ⟨_, rfl, Or.inl ⟨rfl, xs, sq_of h5⟩, _, rfl, p, _, rfl, K5.at_, take_pk hk4, fun x s' H6 hk6 e6 h6p hx hfr => ⟨l, xs, x, rfl, rfl, e6 l _ (by rw [hide_ne nlp]; exact h5), sz_lt big, ?_⟩⟩
        refine done x s' H6 _ _ (K5.next e6 h6p) hk6 (e6 l _ (by rw [hide_ne nlp]; exact h5)) (hpv5.ex (hide_ex (hx_hide e6))) ?_
        cases hx with
        | str h => exact .str h
        | non => exact .non
        | int i => exact .int i
        | bl b => exact .bl b
        | @lst r h =>
          have hr0 := hfr r rfl
          have n1 : r ≠ l := fun z => by
            rw [z, h5] at hr0
            cases hr0
          have n2 : r ≠ p := fun z => by
            rw [z, K5.at_] at hr0
            cases hr0
          exact .lst (by rw [hide_ne n1, hide_ne n2]; exact h)
      · have hk5 : Pk (if bad = true then (take (take s1 7).2 3).2 else (take s1 7).2) := by
          split
          · exact take_pk hk4
          · exact hk4
        generalize (if bad = true then (take (take s1 7).2 3).2 else (take s1 7).2) = s5 at K5 hk5
        have h5 : H5 l = some (.lst xs) := e5 _ _ (by rw [hide_ne nlp]; exact h4)
        have hpv5 := hpv4.ex (hide_ex (p := l) (hx_hide e5))
        refine sp_if K5 (EvTP.of (et_test (ev_op (ev_var rfl) ev_c rv_I0))) (fun hc H6 K6 e6 => ?_) (fun hc H6 K6 e6 => ?_)
        · have h6 : H6 l = some (.lst xs) := e6 _ _ (by rw [hide_ne nlp]; exact h5)
          have hpv6 := hpv5.ex (hide_ex (p := l) (hx_hide e6))
          obtain ⟨g1, g2, g3, g4⟩ := lawGood_ok hk5
          exact sp_app K6 h6 nlp rfl (evp_pt rfl hk5) big fun H7 K7 e7 => done _ _ H7 _ _ K7 g1 (e7 _ _ (by rw [hide_ne nlp]; exact h6)) (hpv6.ex (hide_ex (hx_hide e7))) (.str (okS_lny g2 (by omega)))
        · have h6 : H6 l = some (.lst xs) := e6 _ _ (by rw [hide_ne nlp]; exact h5)
          have hpv6 := hpv5.ex (hide_ex (p := l) (hx_hide e6))
          have hge := of_decide_eq_false hc
          obtain ⟨v, hv, hvm⟩ := at_mem (xs := [V.str digP, .str wordP, .str anyP]) (d := (take s1 7).1 - 4) (by omega) (by show _ < (3 : Int); omega)
          refine s_app h6 (ev_var rfl) (ev_ixNew hv) big fun H7 e7 => done v _ _ _ _ (K6.same e7) hk5 (e7 _ _ h6) (hpv6.ex (hide_ex (hide_ex e7))) ?_
          simp only [List.mem_cons, List.not_mem_nil, or_false] at hvm
          rcases hvm with rfl | rfl | rfl <;> exact .str ⟨by decide +kernel, by decide +kernel⟩
    · rintro σ' H' ⟨y1, y2, xs, s1, rfl, K3, hk3, h3, hxl, hpv, hi5⟩
      exact s_ret (ev_var rfl) fun H4 e4 => q l xs s1 H4 hl0 hk3 (K3.ex.trans e4) (e4 _ _ K3.at_) (e4 _ _ h3) (by omega) (hpv.ex ((hide_le.trans hide_le).trans e4))

/-! ### a Form made, or refused -/
theorem ok_NoForm___init__ {f : Addr} {fd : FuncData} (F : Fun K "__init__" "NoForm.__init__" s_NoForm___init__ f fd) (T : Txt K mg a_OPEN_PARTS C_Form C_GlueError C_NoChange C_NoCrew C_NoForm C_NoGrammar C_NoName C_NoOutput C_NoRow C_NoRows C_NoRule C_NoText C_NotEnough C_NotRight C_Pattern) : FnOk P w K mg base CX0 1 f fd ["self", "at"] (spXI C_NoForm "at") := by
  refine F.ok sc_NoForm___init__ (fun vs H Q E h => ?_) (fun cdv A outer s0 H vs Q E hr h => ?_)
  · obtain ⟨a, v, rfl, _⟩ := h
    rfl
  · obtain ⟨a, v, rfl, ha, q⟩ := h
    refine ⟨_, (pss_one (ps_ost (pv 0) (pv 1))), ?_⟩
    exact ⟨_, rfl, _, rfl, a, C_NoForm, rfl, T.x_NoForm.o, T.f_NoForm_at, .inl ⟨ha, q⟩⟩
/-- what is told of parts that make no form -/
def NoAt (xs : List V) (v : V) : Prop := (xs = [] ∧ v = .non) ∨ ∃ k, k < xs.length ∧ badAt xs k = true ∧ (∀ j < k, badAt xs j = false) ∧ v = .int (k : Int)
def AllOk (xs : List V) (ps : List Str) : Prop := xs = ps.map V.str ∧ xs ≠ [] ∧ (∀ j < xs.length, badAt xs j = false)
def spFormXI (C CN : Addr) : Sp := fun vs H Q E => ∃ (a t dx : Addr) (xs : List V), vs = [.ref a, .ref t] ∧ H a = some (.ins C dx []) ∧ H t = some (.tup xs) ∧ xs.length ≤ 5 ∧ PVs H xs ∧
  (∀ ps H', AllOk xs ps → Ex (hide a H) H' → FormAt C H' a ps → Q .non H') ∧ (∀ v d H', NoAt xs v → Ex H H' → H' d = some (.xd [("at", v)]) → E (.ref CN) (some d) H')
def spFormX (C CN : Addr) : Sp := fun vs H Q E => ∃ ws rest, vs = ws ++ rest ∧ ws.length = ["self"].length ∧ rest.length ≤ sizeLine ∧ ∀ p, H p = Option.none → spFormXI C CN (ws ++ [V.ref p]) (upd H p (.tup rest)) Q E
theorem okx_Form___init__ {f : Addr} {fd : FuncData} (F : Fun K "__init__" "Form.__init__" s_Form___init__ f fd) (T : Txt K mg a_OPEN_PARTS C_Form C_GlueError C_NoChange C_NoCrew C_NoForm C_NoGrammar C_NoName C_NoOutput C_NoRow C_NoRows C_NoRule C_NoText C_NotEnough C_NotRight C_Pattern) (D_NoForm___init__ : DfX P w K mg base "NoForm" C_NoForm ["self", "at"] 1 (spXI C_NoForm "at"))
    (D__is_allowed : Df P w K mg base "_is_allowed" ["parts", "at"] 2 (spAllowX K)) (D_cells_of__t : Df P w K mg base "cells_of" ["parts"] 1 (spCellsT K)) :
    FnR P w K mg base (L2.CX P w) 3 f (spFormX C_Form C_NoForm) := by
  obtain ⟨oc, od, kV, doc, pm, an, cdv, ct, osl, rfl, lk, hcd⟩ := F.ex
  refine fn_star (ps := ["self"]) (pv := "parts") lk hcd sc_Form___init__ cxUp (bind_star1 (B := fun us => bindArgs (PySem.W.fnOf "__init__" "Form.__init__" (defArgs s_Form___init__) (defBody s_Form___init__) (defScope s_Form___init__) .none kV doc pm an cdv ct) ⟨us, []⟩) (p1 := "self") (pv := "parts") (fun a => rfl) (fun a r rs => rfl)) (fun A outer s0 H vs Q E hr h => ?_)
  obtain ⟨a, t, dx, xs, rfl, ha, ht, hl, hpv, qok, qno⟩ := h
  refine ⟨_, (pss_cons (ps_if (pt_cmpR op_eq (pe_callB call_len_seq (by rfl) T.n_len PySem.boot_len (pa_cons (pv 1) pa_nil)) pe_int (nomark _))
      (pss_one (ps_raiseX D_NoForm___init__ (hr.mono (by decide)) (by rfl) rfl (takes_of rfl rfl rfl rfl) (pa_cons pe_non pa_nil)))
      pss_nil)
      (pss_cons (ps_for (passes_of rfl) rfl (pi_range1 (by rfl) T.n_range (pa_cons (pe_callB call_len_seq (by rfl) T.n_len PySem.boot_len (pa_cons (pv 1) pa_nil)) pa_nil)) (pg_name (i := 2) sc_Form___init__.nd rfl (Or.inl rfl))
      (pss_one (ps_if (pt_not (pt_val (pe_df D__is_allowed (hr.mono (by decide)) (by rfl) (pa_cons (pv 1) (pa_cons (pv 2) pa_nil)))))
      (pss_one (ps_raiseX D_NoForm___init__ (hr.mono (by decide)) (by rfl) rfl (takes_of rfl rfl rfl rfl) (pa_cons (pv 2) pa_nil)))
      pss_nil)))
      (pss_cons (ps_fld (pv 0) (pv 1) rfl)
      (pss_one (ps_fld (pv 0) (pe_df D_cells_of__t (hr.mono (by decide)) (by rfl) (pa_cons (pv 1) pa_nil)) rfl))))), ?_⟩
  have nat : a ≠ t := ne_of ha ht (by intro z; cases z)
  refine q_when (b := decide ((xs.length : Int) = 0)) (et_test (ev_op (fun H1 e1 Q' q' => ⟨_, rfl, t, xs, rfl, .inr (st_of (e1 _ _ ht)), q' H1 (Ex.refl _)⟩) ev_c rv_eqI)) (fun hb H1 e1 => ?_) (fun hb H1 e1 => ?_)
  · have h0 : xs = [] := List.length_eq_zero_iff.mp (by have := of_decide_eq_true hb; omega)
    exact mkX (C := C_NoForm) (f := "at") ev_c fun d H2 hd e2 h2 => qno .non d H2 (.inl ⟨h0, rfl⟩) (e1.trans e2) h2
  have ht1 := e1 _ _ ht
  have hne : xs ≠ [] := fun z => by
    rw [z] at hb
    exact absurd hb (by decide)
  refine q_forR1 (n := (xs.length : Int)) (fun H2 e2 Q' q' => ⟨_, rfl, t, xs, rfl, .inr (st_of (e2 _ _ ht1)), q' H2 (Ex.refl _)⟩) (by omega) (fun i σ' H' => ∃ y : Option V, σ' = [some (.ref a), some (.ref t), y] ∧ Ex H1 H' ∧ ∀ j < i, badAt xs j = false) (fun H2 e2 => ⟨none, rfl, e2, fun j hj => by omega⟩) ?_ ?_
  · rintro i σ' H2 hi ⟨y, rfl, e2, hbf⟩
    refine s_when (b := badAt xs i) (et_is (et_not (et_B (ev_call (z := .bl (!badAt xs i)) (ea_cons (ev_var rfl) (ea_cons (ev_var rfl) ea_nil)) fun H3 e3 Q' q' E' => ⟨t, xs, i, rfl, st_of (e3 _ _ (e2 _ _ ht1)), hl, hpv.ex ((e1.trans e2).trans e3), by omega, hbf, q'⟩))) (Bool.not_not _)) (fun hc H3 e3 => ?_) (fun hc H3 e3 => ⟨_, rfl, e2.trans e3, fun j hj => ?_⟩)
    · exact mkX (C := C_NoForm) (f := "at") (ev_var rfl) fun d H4 hd e4 h4 => qno _ d H4 (.inr ⟨i, by omega, hc, hbf, rfl⟩) (((e1.trans e2).trans e3).trans e4) h4
    · rcases Nat.lt_succ_iff_lt_or_eq.mp hj with h | rfl
      · exact hbf j h
      · exact hc
  · rintro σ' H2 ⟨y, rfl, e2, hbf⟩
    have hbf' : ∀ j < xs.length, badAt xs j = false := fun j hj => hbf j (by omega)
    obtain ⟨ps, hps, hpl⟩ := take_strs (Nat.le_refl _) hbf'
    rw [List.take_length] at hps
    have ha2 := e2 _ _ (e1 _ _ ha)
    have ht2 := e2 _ _ ht1
    refine ⟨_, rfl, _, rfl, a, C_Form, dx, [], rfl, ha2, T.k_Form, T.a_Form__parts, by decide, ?_⟩
    have ht3 : upd H2 a (.ins C_Form dx (putF "_parts" (.ref t) [])) t = some (.tup (ps.map V.str)) := by
      rw [upd_ne nat.symm, ← hps]
      exact ht2
    refine ⟨_, rfl, t, ps, rfl, st_of ht3, by omega, fun p hp => ?_, fun c H3 hc0 e3 h3 => ?_⟩
    · have hm : V.str p ∈ xs := by
        rw [hps]
        exact List.mem_map_of_mem hp
      cases hpv _ hm with
      | str h => exact h.1
    have ha3 : H3 a = some (.ins C_Form dx (putF "_parts" (.ref t) [])) := e3 _ _ upd_same
    have nca : c ≠ a := fun z => by
      rw [z, upd_same] at hc0
      cases hc0
    refine ⟨_, rfl, a, C_Form, dx, _, rfl, ha3, T.k_Form, T.a_Form__cells, by
      have := length_putF ("_parts" : Str) (.ref t) []
      simp only [List.length_nil] at this
      omega, qok ps _ ⟨hps, hne, hbf'⟩ ?_ ⟨dx, t, c, upd_same, ?_, ?_⟩⟩
    · intro b o hb
      obtain ⟨nb, hb⟩ := hide_some hb
      rw [upd_ne nb]
      exact e3 _ _ (by rw [upd_ne nb]; exact e2 _ _ (e1 _ _ hb))
    · rw [upd_ne nat.symm]
      exact e3 _ _ ht3
    · rw [upd_ne nca]
      exact h3
/-- Form(..) with these values -/
theorem mk_form {C CN : Addr} {σ : L2.St} {H : Hp} {ta : TA} {xs : List V} {Q : VK} {E : XK} (h : EvA ta σ H xs) (hl : xs.length ≤ 5) (hpv : PVs H xs)
    (qok : ∀ ps fm H', AllOk xs ps → Ex H H' → FormAt C H' fm ps → Q (.ref fm) H') (qno : ∀ v d H', NoAt xs v → Ex H H' → H' d = some (.xd [("at", v)]) → E (.ref CN) (some d) H') : tMakeR C (spFormX C CN) E ta σ H Q :=
  h H (Ex.refl _) _ fun H1 e1 => fun x dx hx hdx hne => ⟨[.ref x], xs, rfl, rfl, sz_of (by omega), fun p hp => by
    have hx1 : upd H1 dx (.own x) x = none := by
      rw [upd_ne (Ne.symm hne)]
      exact hx
    have e2 : Ex H1 (upd (upd H1 dx (.own x)) x (.ins C dx [])) := (Ex.new hdx).trans (Ex.new hx1)
    have e3 : Ex H1 (upd (upd (upd H1 dx (.own x)) x (.ins C dx [])) p (.tup xs)) := e2.trans (Ex.new hp)
    have npx : x ≠ p := fun z => by
      rw [← z, upd_same] at hp
      cases hp
    refine ⟨x, p, dx, xs, rfl, by rw [upd_ne npx]; exact upd_same, upd_same, hl, hpv.ex (e1.trans e3), fun ps H' ho e hF => ⟨rfl, qok ps x H' ho (e1.trans fun b o hb => ?_) hF⟩, fun v d H' hn e hd => qno v d H' hn ((e1.trans e3).trans e) hd⟩
    refine e b o ?_
    rw [hide_ne (ne_of_none hb hx)]
    exact e3 b o hb⟩
def spMade (K : PySem.W.Frag) (C CN : Addr) : Sp := fun vs H Q E => ∃ (l : Addr) (xs : List V), vs = [.ref l] ∧ SqL K H l xs ∧ xs.length ≤ 5 ∧ PVs H xs ∧
  (∀ ps fm H', AllOk xs ps → Ex H H' → FormAt C H' fm ps → Q (.ref fm) H') ∧ (∀ v d H', NoAt xs v → Ex H H' → H' d = some (.xd [("at", v)]) → E (.ref CN) (some d) H')
/-- data of any parts -/
theorem PV.dp {H : Hp} {x : V} (h : PV H x) : ∃ d, Dp K H x d ∧ PyData.canLay0 d = true ∧ PyData.depth d ≤ 2 := by
  cases h with
  | @str z h => exact ⟨.str z, .str z, by simp only [PyData.canLay0]; exact h.2, by simp [PyData.depth]⟩
  | non => exact ⟨.none, .non, by simp [PyData.canLay0], by simp [PyData.depth]⟩
  | int i => exact ⟨.int i, .int i, by simp [PyData.canLay0], by simp [PyData.depth]⟩
  | bl b => exact ⟨.bool b, .bl b, by simp [PyData.canLay0], by simp [PyData.depth]⟩
  | @lst r h => exact ⟨.list [.str ("a" : Str)], .lst (sq_of h) (.cons (.str _) .nil), by decide +kernel, by decide +kernel⟩
theorem PVs.dp {H : Hp} : ∀ {xs : List V}, PVs H xs → ∃ ds, DpAll K H xs ds ∧ PyData.canLayAll0 ds = true ∧ PyData.depthAll ds ≤ 2 ∧ ds.length = xs.length
  | [], _ => ⟨[], .nil, by simp [PyData.canLayAll0], by simp [PyData.depthAll], rfl⟩
  | x :: xs, h => by
    obtain ⟨d, h1, h2, h3⟩ := PV.dp (K := K) (h x List.mem_cons_self)
    obtain ⟨ds, k1, k2, k3, k4⟩ := PVs.dp (xs := xs) fun y hy => h y (List.mem_cons_of_mem _ hy)
    exact ⟨d :: ds, .cons h1 k1, by simp [PyData.canLayAll0, h2, k2], by simp only [PyData.depthAll]; omega, by simp [k4]⟩
theorem shaped_of {ds : List PyData} (h1 : PyData.canLayAll0 ds = true) (h2 : PyData.depthAll ds ≤ 2) : SeqAt.shaped (.list ds) = true := by
  show (PyData.canLay0 (.list ds) && decide (PyData.depth (.list ds) ≤ 64)) = true
  rw [Bool.and_eq_true]
  exact ⟨by simp only [PyData.canLay0]; exact h1, decide_eq_true (by simp only [PyData.depth]; omega)⟩
theorem eqv_nil (ds : List PyData) : PyData.eqv (.list ds) (.list []) = ds.isEmpty := by
  cases ds <;> simp [PyData.eqv, PyData.eqvAll]
theorem len_empty {ds : List PyData} {xs : List V} (h : ds.length = xs.length) : ds.isEmpty = xs.isEmpty := by
  cases ds <;> cases xs <;> simp_all
theorem rv_eqN {p q : Addr} {xs : List V} {H : Hp} (hx : SqL K H p xs) (hpv : PVs H xs) (hy : H q = some (.lst [])) : RV (rEqD K) (.ref p) (.ref q) H (.bl xs.isEmpty) := fun H1 e Q k => by
  obtain ⟨ds, h1, h2, h3, h4⟩ := PVs.dp (K := K) (hpv.ex e)
  refine ⟨.list ds, .list [], .lst (ex_l e hx) h1, .lst (ex_l e (sq_of hy)) .nil, shaped_of h2 h3, by decide +kernel, ?_⟩
  rw [eqv_nil, len_empty h4]
  exact k H1 (Ex.refl H1)
theorem rv_neN {p q : Addr} {xs : List V} {H : Hp} (hx : SqL K H p xs) (hpv : PVs H xs) (hy : H q = some (.lst [])) : RV (rNeD K) (.ref p) (.ref q) H (.bl (!xs.isEmpty)) := fun H1 e Q k => by
  obtain ⟨ds, h1, h2, h3, h4⟩ := PVs.dp (K := K) (hpv.ex e)
  refine ⟨.list ds, .list [], .lst (ex_l e hx) h1, .lst (ex_l e (sq_of hy)) .nil, shaped_of h2 h3, by decide +kernel, ?_⟩
  rw [eqv_nil, len_empty h4]
  exact k H1 (Ex.refl H1)
theorem ev_xi {σ : L2.St} {H : Hp} {l : Addr} {xs : List V} {x : V} {i : Nat} (hA : SqL K H l xs) (hx : xs[i]? = some x) (hi : σ[0]? = some (some (.ref l)) := by rfl) : Ev (tOp (rIxL K) (tVar 0) (tC (.int (i : Int)))) σ H x :=
  ev_op (ev_var hi) ev_c (rv_ixL hA (tup_at hx))
theorem ok__law_made {f : Addr} {fd : FuncData} (F : Fun K "_law_made" "_law_made" s__law_made f fd) (T : Txt K mg a_OPEN_PARTS C_Form C_GlueError C_NoChange C_NoCrew C_NoForm C_NoGrammar C_NoName C_NoOutput C_NoRow C_NoRows C_NoRule C_NoText C_NotEnough C_NotRight C_Pattern) (D_Form___init__ : DfSX P w K mg base "Form" C_Form 3 (spFormX C_Form C_NoForm)) :
    FnOk P w K mg base (L2.CX P w) 5 f fd ["parts"] (spMade K C_Form C_NoForm) := by
  refine F.okX sc__law_made (fun vs H Q E h => ?_) (fun cdv A outer s0 H vs Q E hr h => ?_)
  · obtain ⟨l, xs, rfl, _⟩ := h
    rfl
  · obtain ⟨l, xs, rfl, hA, hl, hpv, qok, qno⟩ := h
    refine ⟨_, (pss_cons (ps_if (pt_cmpR (op_eqD hr.units) (pv 0) (pe_lst pa_nil) (nomark _))
      (pss_one (ps_ret (pe_mkSX0 D_Form___init__ (hr.mono (by decide)) (by rfl) (takes_of rfl rfl rfl rfl))))
      pss_nil)
      (pss_cons (ps_if (pt_cmpR op_eq (pe_callB call_len_seq (by rfl) T.n_len PySem.boot_len (pa_cons (pv 0) pa_nil)) pe_int (nomark _))
      (pss_one (ps_ret (pe_mkSX D_Form___init__ (hr.mono (by decide)) (by rfl) (takes_of rfl rfl rfl rfl) (pa_cons (pe_ix ix_list (pv 0) pe_int (fun _ _ => rfl)) pa_nil))))
      pss_nil)
      (pss_cons (ps_if (pt_cmpR op_eq (pe_callB call_len_seq (by rfl) T.n_len PySem.boot_len (pa_cons (pv 0) pa_nil)) pe_int (nomark _))
      (pss_one (ps_ret (pe_mkSX D_Form___init__ (hr.mono (by decide)) (by rfl) (takes_of rfl rfl rfl rfl) (pa_cons (pe_ix ix_list (pv 0) pe_int (fun _ _ => rfl)) (pa_cons (pe_ix ix_list (pv 0) pe_int (fun _ _ => rfl)) pa_nil)))))
      pss_nil)
      (pss_cons (ps_if (pt_cmpR op_eq (pe_callB call_len_seq (by rfl) T.n_len PySem.boot_len (pa_cons (pv 0) pa_nil)) pe_int (nomark _))
      (pss_one (ps_ret (pe_mkSX D_Form___init__ (hr.mono (by decide)) (by rfl) (takes_of rfl rfl rfl rfl) (pa_cons (pe_ix ix_list (pv 0) pe_int (fun _ _ => rfl)) (pa_cons (pe_ix ix_list (pv 0) pe_int (fun _ _ => rfl)) (pa_cons (pe_ix ix_list (pv 0) pe_int (fun _ _ => rfl)) pa_nil))))))
      pss_nil)
      (pss_cons (ps_if (pt_cmpR op_eq (pe_callB call_len_seq (by rfl) T.n_len PySem.boot_len (pa_cons (pv 0) pa_nil)) pe_int (nomark _))
      (pss_one (ps_ret (pe_mkSX D_Form___init__ (hr.mono (by decide)) (by rfl) (takes_of rfl rfl rfl rfl) (pa_cons (pe_ix ix_list (pv 0) pe_int (fun _ _ => rfl)) (pa_cons (pe_ix ix_list (pv 0) pe_int (fun _ _ => rfl)) (pa_cons (pe_ix ix_list (pv 0) pe_int (fun _ _ => rfl)) (pa_cons (pe_ix ix_list (pv 0) pe_int (fun _ _ => rfl)) pa_nil)))))))
      pss_nil)
      (pss_one (ps_ret (pe_mkSX D_Form___init__ (hr.mono (by decide)) (by rfl) (takes_of rfl rfl rfl rfl) (pa_cons (pe_ix ix_list (pv 0) pe_int (fun _ _ => rfl)) (pa_cons (pe_ix ix_list (pv 0) pe_int (fun _ _ => rfl)) (pa_cons (pe_ix ix_list (pv 0) pe_int (fun _ _ => rfl)) (pa_cons (pe_ix ix_list (pv 0) pe_int (fun _ _ => rfl)) (pa_cons (pe_ix ix_list (pv 0) pe_int (fun _ _ => rfl)) pa_nil))))))))))))), ?_⟩
    have goal : ∀ {σ : L2.St} {H1 : Hp} {ta : TA}, Ex H H1 → EvA ta σ H1 xs → tMakeR C_Form (spFormX C_Form C_NoForm) E ta σ H1 Q := fun e1 h => mk_form h hl (hpv.ex e1) (fun ps fm H' ho e hF => qok ps fm H' ho (e1.trans e) hF) (fun v d H' hn e hd => qno v d H' hn (e1.trans e) hd)
    refine q_when (b := xs.isEmpty) (et_test (ev_opL (ev_var rfl) (el_lst ea_nil (Nat.zero_le _)) fun p H1 hp e1 => rv_eqN (ex_l e1 hA) (hpv.ex e1) hp)) (fun hb H1 e1 => ?_) (fun hb H1 e1 => ?_)
    · have : xs = [] := List.isEmpty_iff.mp hb
      subst this
      exact goal e1 ea_nil
    have lenE : ∀ {n : Int} {H2 : Hp}, Ex H H2 → EvT (tTest (tOp rEq (tCB (fun xs H Q => ∃ p ys, xs = [.ref p] ∧ (SqL K H p ys ∨ SqT K H p ys) ∧ Q (.int ys.length) H) (tCons (tVar 0) tNil)) (tC (.int n)))) (start ["parts"] [.ref l]) H2 (decide ((xs.length : Int) = n)) := fun e2 => et_test (ev_op (ev_lenL (ev_var rfl) (ex_l e2 hA)) ev_c rv_eqI)
    refine q_when (lenE e1) (fun hb2 H2 e2 => ?_) (fun hb2 H2 e2 => ?_)
    · match xs, of_decide_eq_true hb2 with
      | [x1], _ => exact goal (e1.trans e2) (ea_cons (ev_xi (i := 0) (ex_l (e1.trans e2) hA) rfl) ea_nil)
    have e12 := e1.trans e2
    refine q_when (lenE e12) (fun hb3 H3 e3 => ?_) (fun hb3 H3 e3 => ?_)
    · have hA3 := ex_l (e12.trans e3) hA
      match xs, of_decide_eq_true hb3 with
      | [x1, x2], _ => exact goal (e12.trans e3) (ea_cons (ev_xi (i := 0) hA3 rfl) (ea_cons (ev_xi (i := 1) hA3 rfl) ea_nil))
    have e13 := e12.trans e3
    refine q_when (lenE e13) (fun hb4 H4 e4 => ?_) (fun hb4 H4 e4 => ?_)
    · have hA4 := ex_l (e13.trans e4) hA
      match xs, of_decide_eq_true hb4 with
      | [x1, x2, x3], _ => exact goal (e13.trans e4) (ea_cons (ev_xi (i := 0) hA4 rfl) (ea_cons (ev_xi (i := 1) hA4 rfl) (ea_cons (ev_xi (i := 2) hA4 rfl) ea_nil)))
    have e14 := e13.trans e4
    refine q_when (lenE e14) (fun hb5 H5 e5 => ?_) (fun hb5 H5 e5 => ?_)
    · have hA5 := ex_l (e14.trans e5) hA
      match xs, of_decide_eq_true hb5 with
      | [x1, x2, x3, x4], _ => exact goal (e14.trans e5) (ea_cons (ev_xi (i := 0) hA5 rfl) (ea_cons (ev_xi (i := 1) hA5 rfl) (ea_cons (ev_xi (i := 2) hA5 rfl) (ea_cons (ev_xi (i := 3) hA5 rfl) ea_nil))))
    have hA5 := ex_l (e14.trans e5) hA
    have n1 := of_decide_eq_false hb2
    have n2 := of_decide_eq_false hb3
    have n3 := of_decide_eq_false hb4
    have n4 := of_decide_eq_false hb5
    match xs, hb, n1, n2, n3, n4, hl with
    | [x1, x2, x3, x4, x5], _, _, _, _, _, _ => exact goal (e14.trans e5) (ea_cons (ev_xi (i := 0) hA5 rfl) (ea_cons (ev_xi (i := 1) hA5 rfl) (ea_cons (ev_xi (i := 2) hA5 rfl) (ea_cons (ev_xi (i := 3) hA5 rfl) (ea_cons (ev_xi (i := 4) hA5 rfl) ea_nil)))))
    | [], h, _, _, _, _, _ => cases h
    | [_], _, h, _, _, _, _ => exact absurd rfl h
    | [_, _], _, _, h, _, _, _ => exact absurd rfl h
    | [_, _, _], _, _, _, h, _, _ => exact absurd rfl h
    | [_, _, _, _], _, _, _, _, h, _ => exact absurd rfl h
    | _ :: _ :: _ :: _ :: _ :: _ :: _, _, _, _, _, _, h => exact absurd h (by simp)

/-! ### the caught exception asked; the law -/
def spOther (C : Addr) (a : Addr) (c : Value) (d : Option Addr) : Sp := fun vs H Q _ => ∃ (dd : Addr) (fs : List (Str × V)), c = .ref C ∧ d = some dd ∧ H dd = some (.xd fs) ∧ vs = [.ref a] ∧ RetV (.bl false) H Q
theorem oke__law_other {f : Addr} {fd : FuncData} (F : Fun K "_law_other" "_law_other" s__law_other f fd) (T : Txt K mg a_OPEN_PARTS C_Form C_GlueError C_NoChange C_NoCrew C_NoForm C_NoGrammar C_NoName C_NoOutput C_NoRow C_NoRows C_NoRule C_NoText C_NotEnough C_NotRight C_Pattern) : FnE P w K mg base 1 f fd ["e"] (spOther C_NoForm) := by
  refine Fun.okE (sp := spOther C_NoForm) F sc__law_other (fun a c d vs H Q E h => ?_) (fun a oe c d hz hf cdv A outer s0 H vs Q E hr h => ?_)
  · obtain ⟨dd, fs, _, _, _, rfl, _⟩ := h
    rfl
  · obtain ⟨dd, fs, rfl, rfl, hd, rfl, q⟩ := h
    refine ⟨_, (pss_cons (ps_if (pt_val (pe_callB (call_isX (List.mem_singleton.mpr rfl) hz hf) (by rfl) T.n_isinstance (by decide +kernel) (pa_cons (pv 0) (pa_cons (pe_tup (pa_cons (pe_cst T.c_NoChange (by rfl)) (pa_cons (pe_cst T.c_NoCrew (by rfl)) (pa_cons (pe_cst T.c_NoGrammar (by rfl)) (pa_cons (pe_cst T.c_NoName (by rfl)) (pa_cons (pe_cst T.c_NoOutput (by rfl)) (pa_cons (pe_cst T.c_NoRow (by rfl)) (pa_cons (pe_cst T.c_NoRows (by rfl)) (pa_cons (pe_cst T.c_NoRule (by rfl)) (pa_cons (pe_cst T.c_NoText (by rfl)) pa_nil)))))))))) pa_nil))))
      (pss_one (ps_ret pe_bl))
      pss_nil)
      (pss_one (ps_ret (pe_or (pe_callB (call_isX (List.mem_singleton.mpr rfl) hz hf) (by rfl) T.n_isinstance (by decide +kernel) (pa_cons (pv 0) (pa_cons (pe_tup (pa_cons (pe_cst T.c_NotEnough (by rfl)) (pa_cons (pe_cst T.c_NotRight (by rfl)) pa_nil))) pa_nil))) (pe_or (pe_not (pe_callB (call_isX (List.mem_singleton.mpr rfl) hz hf) (by rfl) T.n_isinstance (by decide +kernel) (pa_cons (pv 0) (pa_cons (pe_cst T.c_GlueError (by rfl)) pa_nil)))) (pe_one (pe_not (pe_callB (call_isX (List.mem_singleton.mpr rfl) hz hf) (by rfl) T.n_isinstance (by decide +kernel) (pa_cons (pv 0) (pa_cons (pe_bltn (v := .ty "ValueError") (by rfl) T.n_ValueError (by decide +kernel) rfl) pa_nil)))))))))), ?_⟩
    have own : ∀ {C : Addr}, ClsV (.ref C) (.ref C) := fun {C} => .own C
    refine q_when (b := false) (et_B (ev_xoT T.x_NoForm rfl hd (eu_tup (ea_cons ev_c (ea_cons ev_c (ea_cons ev_c (ea_cons ev_c (ea_cons ev_c (ea_cons ev_c (ea_cons ev_c (ea_cons ev_c (ea_cons ev_c ea_nil))))))))) (by simp))
      (.cons own (.cons own (.cons own (.cons own (.cons own (.cons own (.cons own (.cons own (.cons own .nil))))))))) T.q_a9)) (fun z => by cases z) (fun _ H1 e1 => ?_)
    have hd1 := e1 _ _ hd
    exact s_ret (v := .bl (false || ((!true) || (!true)))) (ev_orV (ev_xoT T.x_NoForm rfl hd1 (eu_tup (ea_cons ev_c (ea_cons ev_c ea_nil)) (by simp)) (.cons own (.cons own .nil)) T.q_a2) fun _ => ev_orV (ev_notV (ev_xo1 T.x_NoForm rfl hd1 ev_c own T.q_g)) fun _ => ev_notV (ev_xo1 T.x_NoForm rfl hd1 ev_c (.ty "ValueError") T.q_v)) fun H2 e2 => q H2 (e1.trans e2)
def spRight (K : PySem.W.Frag) : Sp := fun vs H Q _ => ∃ (l : Addr) (xs : List V), vs = [.ref l] ∧ SqL K H l xs ∧ xs.length ≤ 5 ∧ PVs H xs ∧ RetV (.bl true) H Q
theorem due_of {xs : List V} {d : Int} {k : Nat} (h : Due xs d) (hk : k < xs.length) (hb : badAt xs k = true) (hg : ∀ j < k, badAt xs j = false) : d = (k : Int) := by
  rcases h with ⟨_, h⟩ | ⟨j, hj, h1, h2, rfl⟩
  · rw [h k hk] at hb
    cases hb
  · rcases Nat.lt_trichotomy j k with h | rfl | h
    · rw [hg j h] at h1
      cases h1
    · rfl
    · rw [h2 k h] at hb
      cases hb
theorem due_no {xs : List V} {d : Int} (h : Due xs d) (hg : ∀ j < xs.length, badAt xs j = false) : d = -1 := by
  rcases h with ⟨h, _⟩ | ⟨j, hj, h1, _, _⟩
  · exact h
  · rw [hg j hj] at h1
    cases h1
theorem at_look (v : V) : ([(("at" : Str), v)] : List (Str × V)).lookup ("at" : Str) = some v := by
  simp [List.lookup]
theorem ok__law_right {f : Addr} {fd : FuncData} (F : Fun K "_law_right" "_law_right" s__law_right f fd) (T : Txt K mg a_OPEN_PARTS C_Form C_GlueError C_NoChange C_NoCrew C_NoForm C_NoGrammar C_NoName C_NoOutput C_NoRow C_NoRows C_NoRule C_NoText C_NotEnough C_NotRight C_Pattern) (D__law_first_bad : Df P w K mg base "_law_first_bad" ["parts"] 3 (spFirst K)) (D__law_made : DfR P w K mg base "_law_made" ["parts"] 5 (spMade K C_Form C_NoForm))
    (D__law_other : DfE P w K mg base "_law_other" ["e"] 1 (spOther C_NoForm)) (D_Form_parts : DfM P w K mg base C_Form "parts" ["self"] 1 (spParts C_Form)) : FnOk P w K mg base CX0 6 f fd ["parts"] (spRight K) := by
  refine F.ok sc__law_right (fun vs H Q E h => ?_) (fun cdv A outer s0 H vs Q E hr h => ?_)
  · obtain ⟨l, xs, rfl, _⟩ := h
    rfl
  · obtain ⟨l, xs, rfl, hA, hl, hpv, q⟩ := h
    refine ⟨_, (pss_cons (ps_set (i := 1) sc__law_right.nd rfl (Or.inl rfl) (pe_df D__law_first_bad (hr.mono (by decide)) (by rfl) (pa_cons (pv 0) pa_nil)))
      (pss_cons (ps_try_as (x := "NoForm") (c := .ref C_NoForm) (i := 3) rfl rfl sc__law_right.nd rfl rfl ⟨rfl, by decide, .inl T.m_NoForm⟩ takes0 (fun W pn xe tk _ => (pss_one (ps_set (i := 2) sc__law_right.nd rfl (Or.inl rfl) (pe_dfR D__law_made (hr.mono (by decide)) (by rfl) tk (pa_cons (pv 0) pa_nil))))) (fun a oe cls d pn hz hf => (pss_cons (ps_if (pt_cmpR (op_eqDK K rfl hr.units) (pv 0) (pe_lst pa_nil) (nomark _))
      (pss_one (ps_ret (pe_and (pe_cmpR op_isN (pe_xf T.x_NoForm.x T.f_NoForm_at hz hf (pv 3)) pe_non (nomark _)) (pe_one (pe_not (pe_dfE D__law_other (roomS (hr.mono (by decide))) (by rfl) List.mem_cons_self hz hf (pa_cons (pv 3) pa_nil)))))))
      pss_nil)
      (pss_one (ps_ret (pe_and (pe_callB (call_isiK' K rfl) (by rfl) T.n_isinstance (by decide +kernel) (pa_cons (pe_xf T.x_NoForm.x T.f_NoForm_at hz hf (pv 3)) (pa_cons (pe_bltn (v := .ty "int") (by rfl) T.n_int (by decide +kernel) rfl) pa_nil))) (pe_and (pe_not (pe_callB (call_isiK' K rfl) (by rfl) T.n_isinstance (by decide +kernel) (pa_cons (pe_xf T.x_NoForm.x T.f_NoForm_at hz hf (pv 3)) (pa_cons (pe_bltn (v := .ty "bool") (by rfl) T.n_bool (by decide +kernel) rfl) pa_nil)))) (pe_and (pe_cmpR op_eq (pe_xf T.x_NoForm.x T.f_NoForm_at hz hf (pv 3)) (pv 1) (nomark _)) (pe_one (pe_not (pe_dfE D__law_other (roomS (hr.mono (by decide))) (by rfl) List.mem_cons_self hz hf (pa_cons (pv 3) pa_nil))))))))))))
      (pss_cons (ps_set (i := 4) sc__law_right.nd rfl (Or.inl rfl) (pe_mth0 T.k_Form D_Form_parts (hr.mono (by decide)) (pv 2)))
      (pss_one (ps_ret (pe_and (pe_cmpR (op_neD hr.units) (pv 0) (pe_lst pa_nil) (nomark _)) (pe_and (pe_cmpR op_eq (pv 1) (pe_un un_neg pe_int) (nomark _)) (pe_and (pe_callB call_isi (by rfl) T.n_isinstance (by decide +kernel) (pa_cons (pv 4) (pa_cons (pe_bltn (v := .ty "tuple") (by rfl) T.n_tuple (by decide +kernel) rfl) pa_nil))) (pe_and (pe_cmpR (op_eqD hr.units) (pv 4) (pe_callTy call_tuple_of (by rfl) T.n_tuple (by decide +kernel) (pa_cons (pv 0) pa_nil)) (nomark _)) (pe_one (pe_callB call_isi (by rfl) T.n_isinstance (by decide +kernel) (pa_cons (pv 2) (pa_cons (pe_cst T.c_Pattern (by rfl)) pa_nil))))))))))))), ?_⟩
    refine ⟨_, rfl, l, xs, rfl, hA, hl, hpv, fun due H1 hdue e1 => ?_⟩
    refine ⟨_, rfl, l, xs, rfl, ex_l e1 hA, hl, hpv.ex e1, fun ps fm H2 ho e2 hF => ?_, fun v d H2 hn e2 hd => ⟨true, T.x_NoForm.s, fun _ a ha => ?_, fun z => nomatch z⟩⟩
    · obtain ⟨rfl, hne, hg⟩ := ho
      obtain ⟨dx, t, c, f1, f2, f3⟩ := id hF
      refine ⟨_, rfl, fm, dx, _, rfl, f1, formF_no t c (by decide +kernel) (by decide +kernel), fm, ps, rfl, hF, fun tp H3 e3 htp => ?_⟩
      have e13 := (e1.trans e2).trans e3
      have hd1 := due_no hdue hg
      have hps : ∀ v ∈ ps.map V.str, okV v = true := fun v hv => by
        cases hpv v hv with
        | str h => exact h.2
        | _ =>
          obtain ⟨p, _, h⟩ := List.mem_map.mp hv
          cases h
      have h1 : (ps.map V.str).isEmpty = false := by
        cases h : ps.map V.str with
        | nil => exact absurd h hne
        | cons _ _ => rfl
      dsimp only [gName]
      refine s_ret (v := .bl (true && (true && (true && (true && true))))) (ev_andV ?_ fun _ => ev_andV ?_ fun _ => ev_andV ?_ fun _ => ev_andV ?_ fun _ => ?_) fun H4 e4 => q H4 (e13.trans e4)
      · exact ev_is (ev_opL (ev_var rfl) (el_lst ea_nil (Nat.zero_le _)) fun p H4 hp e4 => rv_neN (ex_l (e13.trans e4) hA) (hpv.ex (e13.trans e4)) hp) (by rw [h1]; rfl)
      · exact ev_is (ev_op (ev_var rfl) (ev_neg ev_c) rv_eqI) (by rw [hd1]; rfl)
      · exact ev_isi (ev_var rfl) (.base (.tup (e3 _ _ htp))) (by decide +kernel)
      · exact ev_is (ev_opU (ev_var rfl) (eu_tupL (ev_var rfl) (ex_l e13 hA)) fun p H4 hp e4 => rv_eqT (st_of (e4 _ _ (e3 _ _ htp))) (st_of hp) hps hps) (by rw [eqF_strs, decide_eq_true rfl])
      · intro H4 e4 Q' q'
        exact ⟨_, rfl, .ref fm, .ref C_Pattern, .ref C_Form, .ref C_Pattern, true, rfl, .own C_Pattern, .base (.ins (e4 _ _ (e3 _ _ f1)) T.k_Form T.q_fa T.x_NoForm.n T.x_NoForm.t T.q_fm), T.q_p, q' H4 (Ex.refl _)⟩
    · have e12 := e1.trans e2
      have otherE : ∀ {σ : L2.St} {H3 : Hp}, Ex H2 H3 → σ[3]? = some (some (.ref a)) → Ev (tNotV (tCall (spOther C_NoForm a (.ref C_NoForm) (some d)) [] E0 (tCons (tVar 3) tNil))) σ H3 (.bl (!false)) := fun e3 i3 =>
        ev_notV (ev_call (ea_cons (ev_var i3) ea_nil) fun H4 e4 Q' q' E' => ⟨d, _, rfl, rfl, e4 _ _ (e3 _ _ hd), rfl, q'⟩)
      have atE : ∀ {σ : L2.St} {H3 : Hp}, Ex H2 H3 → σ[3]? = some (some (.ref a)) → Ev (tXf a (.ref C_NoForm) (some d) C_NoForm "at" (tVar 3)) σ H3 v := fun e3 i3 => ev_xf i3 (e3 _ _ hd) (at_look v)
      refine q_when (b := xs.isEmpty) (et_test (ev_opL (ev_var rfl) (el_lst ea_nil (Nat.zero_le _)) fun p H3 hp e3 => rv_eqN (ex_l (e12.trans e3) hA) (hpv.ex (e12.trans e3)) hp)) (fun hb H3 e3 => ?_) (fun hb H3 e3 => ?_)
      · have h0 : xs = [] := List.isEmpty_iff.mp hb
        have hv : v = .non := by
          rcases hn with ⟨_, h⟩ | ⟨k, hk, _⟩
          · exact h
          · rw [h0] at hk
            cases hk
        rw [hv] at atE
        refine s_ret (v := .bl (true && (!false))) (ev_andV ?_ fun _ => otherE e3 rfl) fun H4 e4 => q H4 ((e12.trans e3).trans e4)
        exact ev_op (atE e3 rfl) ev_c fun H4 e4 Q' q' => ⟨rfl, by
          rw [decide_eq_true rfl]
          exact q' H4 (Ex.refl _)⟩
      · rcases hn with ⟨h, _⟩ | ⟨k, hk, hbk, hgk, rfl⟩
        · rw [h] at hb
          cases hb
        have hdk := due_of hdue hk hbk hgk
        refine s_ret (v := .bl (true && ((!false) && (true && (!false))))) (ev_andV ?_ fun _ => ev_andV (ev_notV ?_) fun _ => ev_andV ?_ fun _ => otherE e3 rfl) fun H4 e4 => q H4 ((e12.trans e3).trans e4)
        · exact ev_isi (atE e3 rfl) (.base (.int _)) (by decide +kernel)
        · exact ev_isi (atE e3 rfl) (.base (.int _)) (by decide +kernel)
        · exact ev_is (ev_op (atE e3 rfl) (ev_var rfl) rv_eqI) (by rw [hdk, decide_eq_true rfl])
def spLaw (K : PySem.W.Frag) : Sp := fun vs H Q _ => ∃ (a : Addr) (ns : List Int), vs = [.ref a] ∧ SqL K H a (ns.map V.int) ∧ ns.length ≤ 63 ∧ ∀ H', Q (.bl true) H'
theorem ev_cv {σ : L2.St} {H : Hp} {C : Addr} {f : Str} {z : Str} (r : ClX.CRead K C (.type "type")) (h : ∃ t, PySem.W.findCls K (.ref C) (.type "type") f = some (.val (.str z t))) : Ev (ClX.tCVal K (tC (.ref C)) f) σ H (.str z) := fun H1 e Q q => by
  obtain ⟨t, h⟩ := h
  exact ⟨C, .type "type", .str z, .str z t, rfl, r, ⟨h, ⟨t, rfl⟩⟩, q H1 (Ex.refl _)⟩
theorem ok_law {f : Addr} {fd : FuncData} (F : Fun K "law" "law" s_law f fd) (T : Txt K mg a_OPEN_PARTS C_Form C_GlueError C_NoChange C_NoCrew C_NoForm C_NoGrammar C_NoName C_NoOutput C_NoRow C_NoRows C_NoRule C_NoText C_NotEnough C_NotRight C_Pattern) (D__law_pool : Df P w K mg base "_law_pool" ["script", "k"] 1 (spPool K)) (D__law_drawn : Df P w K mg base "_law_drawn" ["pool"] 4 spDrawn) (D__law_right : Df P w K mg base "_law_right" ["parts"] 6 (spRight K)) :
    FnOk P w K mg base CX0 7 f fd ["script"] (spLaw K) := by
  refine F.ok sc_law (fun vs H Q E h => ?_) (fun cdv A outer s0 H vs Q E hr h => ?_)
  · obtain ⟨a, ns, rfl, _⟩ := h
    rfl
  · obtain ⟨a, ns, rfl, hS, hl, q⟩ := h
    refine ⟨_, (pss_cons (ps_if (PW.pt (pw_or (pt_cmpR (op_neD hr.units) (pe_lst (pa_cons (ClX.pe_cval (pe_cst T.c_Form (by rfl))) (pa_cons (ClX.pe_cval (pe_cst T.c_Form (by rfl))) (pa_cons (ClX.pe_cval (pe_cst T.c_Form (by rfl))) pa_nil)))) (pe_lst (pa_cons pe_str (pa_cons pe_str (pa_cons pe_str pa_nil)))) (nomark _)) (pw_or1 (pt_not (pt_val (pe_df D__law_right (hr.mono (by decide)) (by rfl) (pa_cons (pe_lst pa_nil) pa_nil)))))))
      (pss_one (ps_ret pe_bl))
      pss_nil)
      (pss_cons (ps_for PassesOwn.never rfl (pi_range1 (by rfl) T.n_range (pa_cons (pe_callB (call_max2 rfl) (by rfl) T.n_max (by decide +kernel) (pa_cons pe_int (pa_cons (pe_callB (call_min2 rfl) (by rfl) T.n_min (by decide +kernel) (pa_cons pe_int (pa_cons (pe_callB call_len_seq (by rfl) T.n_len PySem.boot_len (pa_cons (pv 0) pa_nil)) pa_nil))) pa_nil))) pa_nil)) (pg_name (i := 1) sc_law.nd rfl (Or.inl rfl))
      (pss_one (ps_if (pt_not (pt_val (pe_df D__law_right (hr.mono (by decide)) (by rfl) (pa_cons (pe_df D__law_drawn (hr.mono (by decide)) (by rfl) (pa_cons (pe_df D__law_pool (hr.mono (by decide)) (by rfl) (pa_cons (pv 0) (pa_cons (pv 1) pa_nil))) pa_nil)) pa_nil))))
      (pss_one (ps_ret pe_bl))
      pss_nil)))
      (pss_one (ps_ret pe_bl)))), ?_⟩
    have cr : ClX.CRead K C_Form (.type "type") := ⟨T.q_rd, T.q_rg⟩
    have okz : ∀ v ∈ ([V.str digP, .str wordP, .str anyP] : List V), okV v = true := by decide +kernel
    refine q_when (b := (!eqF [V.str digP, .str wordP, .str anyP] [V.str digP, .str wordP, .str anyP]) || (!true)) (et_or (et_test (ev_opLL (el_lst (ea_cons (ev_cv cr T.q_1) (ea_cons (ev_cv cr T.q_2) (ea_cons (ev_cv cr T.q_3) ea_nil))) (by simp)) (el_lst (ea_cons ev_c (ea_cons ev_c (ea_cons ev_c ea_nil))) (by simp)) fun p q' H1 hp hq e1 => rv_neL (sq_of hp) (sq_of hq) okz okz)) fun _ => et_not (et_B ?_)) (fun hb => ?_) (fun _ H1 e1 => ?_)
    · exact ev_call1L (el_lst ea_nil (Nat.zero_le _)) fun p H1 hp e1 => fun H2 e2 Q' q' E' => ⟨p, [], rfl, sq_of (e2 _ _ hp), by simp, fun x hx => (nomatch hx), q'⟩
    · rw [show eqF [V.str digP, .str wordP, .str anyP] [V.str digP, .str wordP, .str anyP] = true from eqF_strs [digP, wordP, anyP] [digP, wordP, anyP] ▸ decide_eq_true rfl] at hb
      cases hb
    refine q_forR1 (ea_cons (ev_max ev_c (ev_min2 ev_c (ev_lenL (ev_var rfl) (ex_l e1 hS)))) ea_nil) (by rw [List.length_map]; split <;> split <;> omega)
      (fun i σ' H' => ∃ y : Option V, σ' = [some (.ref a), y] ∧ Ex H H') (fun H2 e2 => ⟨_, rfl, e1.trans e2⟩) ?_ ?_
    · rintro i σ' H2 hi ⟨y, rfl, e2⟩
      have hi2 : (i : Int) ≤ 1000 := by
        rw [List.length_map] at hi
        split at hi <;> split at hi <;> omega
      refine ⟨_, rfl, _, rfl, a, ns, (i : Int), rfl, ex_l e2 hS, hl, by omega, by omega, fun p H3 hp3 e3 h3 => ?_⟩
      refine ⟨p, _, rfl, h3, pool0_pk ns (i : Int), fun l xs s' H4 hl4 hk4 e4 h4p h4l hxl hpv => ⟨l, xs, rfl, sq_of h4l, hxl, hpv, fun H5 e5 => ?_⟩⟩
      have eH : Ex H H5 := (ex_fresh (p := p) (fresh_back e2 hp3) (e2.trans e3) e4).trans e5
      exact ⟨true, rfl, ⟨_, rfl, eH⟩⟩
    · rintro σ' H2 ⟨y, rfl, e2⟩
      exact s_ret ev_c fun H3 e3 => q H3

end
theorem all_mk {l : PySem.W.OpenLaw} {w : World} {K : PySem.W.Frag} {h : Heap} {mg : Str → Option Value} {fa : Addr} (X : K.In h) (G : h.Ns mainGlobals mg) (hfa : mg "law" = some (.ref fa))
    {C_Form : Addr}
    {C_GlueError : Addr}
    {C_NoChange : Addr}
    {C_NoCrew : Addr}
    {C_NoForm : Addr}
    {C_NoGrammar : Addr}
    {C_NoName : Addr}
    {C_NoOutput : Addr}
    {C_NoRow : Addr}
    {C_NoRows : Addr}
    {C_NoRule : Addr}
    {C_NoText : Addr}
    {C_NotEnough : Addr}
    {C_NotRight : Addr}
    {C_Pattern : Addr}
    {f0 : Addr} {od0 an0 : Option Addr} {sl0 : Array (Option Value)} {oc0 kV0 dc0 pm0 cd0 ct0 : Value}
    {f1 : Addr} {od1 an1 : Option Addr} {sl1 : Array (Option Value)} {oc1 kV1 dc1 pm1 cd1 ct1 : Value}
    {f2 : Addr} {od2 an2 : Option Addr} {sl2 : Array (Option Value)} {oc2 kV2 dc2 pm2 cd2 ct2 : Value}
    {f3 : Addr} {od3 an3 : Option Addr} {sl3 : Array (Option Value)} {oc3 kV3 dc3 pm3 cd3 ct3 : Value}
    {f4 : Addr} {od4 an4 : Option Addr} {sl4 : Array (Option Value)} {oc4 kV4 dc4 pm4 cd4 ct4 : Value}
    {f5 : Addr} {od5 an5 : Option Addr} {sl5 : Array (Option Value)} {oc5 kV5 dc5 pm5 cd5 ct5 : Value}
    {f6 : Addr} {od6 an6 : Option Addr} {sl6 : Array (Option Value)} {oc6 kV6 dc6 pm6 cd6 ct6 : Value}
    {f7 : Addr} {od7 an7 : Option Addr} {sl7 : Array (Option Value)} {oc7 kV7 dc7 pm7 cd7 ct7 : Value}
    {f8 : Addr} {od8 an8 : Option Addr} {sl8 : Array (Option Value)} {oc8 kV8 dc8 pm8 cd8 ct8 : Value}
    {f9 : Addr} {od9 an9 : Option Addr} {sl9 : Array (Option Value)} {oc9 kV9 dc9 pm9 cd9 ct9 : Value}
    {f10 : Addr} {od10 an10 : Option Addr} {sl10 : Array (Option Value)} {oc10 kV10 dc10 pm10 cd10 ct10 : Value}
    {f11 : Addr} {od11 an11 : Option Addr} {sl11 : Array (Option Value)} {oc11 kV11 dc11 pm11 cd11 ct11 : Value}
    {f12 : Addr} {od12 an12 : Option Addr} {sl12 : Array (Option Value)} {oc12 kV12 dc12 pm12 cd12 ct12 : Value}
    {f13 : Addr} {od13 an13 : Option Addr} {sl13 : Array (Option Value)} {oc13 kV13 dc13 pm13 cd13 ct13 : Value}
    {f14 : Addr} {od14 an14 : Option Addr} {sl14 : Array (Option Value)} {oc14 kV14 dc14 pm14 cd14 ct14 : Value}
    {f15 : Addr} {od15 an15 : Option Addr} {sl15 : Array (Option Value)} {oc15 kV15 dc15 pm15 cd15 ct15 : Value}
    {f16 : Addr} {od16 an16 : Option Addr} {sl16 : Array (Option Value)} {oc16 kV16 dc16 pm16 cd16 ct16 : Value}
    {f17 : Addr} {od17 an17 : Option Addr} {sl17 : Array (Option Value)} {oc17 kV17 dc17 pm17 cd17 ct17 : Value}
    {t_ANY_SIGNS : Tok}
    {t_MOST_PARTS : Tok}
    {t_MOST_SIGNS : Tok}
    {a_OPEN_PARTS : Addr} {td_OPEN_PARTS : Option Addr} {tn_OPEN_PARTS : Nat} {tl_OPEN_PARTS : Array (Option Value)} {t_OPEN_PARTS_0 t_OPEN_PARTS_1 t_OPEN_PARTS_2 : Tok}
    {t_SIGNS : Tok}
    {nm_NoForm qn_NoForm : Str} {nd_NoForm : Addr} {bs_NoForm : List Value} {sn_NoForm : List Str} {su_NoForm : List Value} {ab_NoForm : Bool} {co_NoForm : Option Bool} {dd_NoForm : Option Addr} {m0_NoForm m1_NoForm m2_NoForm m3_NoForm m5_NoForm : Option Value}
    {t_q_1 : Tok}
    {t_q_2 : Tok}
    {t_q_3 : Tok}
    (a0 : PySem.W.nsIn K mainGlobals "_law_take" = some (some (.ref f0)))
    (l0 : K.lookup f0 = some ⟨oc0, od0, .func (PySem.W.fnOf "_law_take" "_law_take" (defArgs s__law_take) (defBody s__law_take) (defScope s__law_take) .none kV0 dc0 pm0 an0 cd0 ct0), sl0⟩)
    (c0 : PySem.W.codeIn K cd0 "_law_take" = true)
    (k0 : PySem.W.keepIn K (.ref f0) = true)
    (a1 : PySem.W.nsIn K mainGlobals "_law_pool" = some (some (.ref f1)))
    (l1 : K.lookup f1 = some ⟨oc1, od1, .func (PySem.W.fnOf "_law_pool" "_law_pool" (defArgs s__law_pool) (defBody s__law_pool) (defScope s__law_pool) .none kV1 dc1 pm1 an1 cd1 ct1), sl1⟩)
    (c1 : PySem.W.codeIn K cd1 "_law_pool" = true)
    (k1 : PySem.W.keepIn K (.ref f1) = true)
    (a2 : PySem.W.nsIn K mainGlobals "_law_all_signs" = some (some (.ref f2)))
    (l2 : K.lookup f2 = some ⟨oc2, od2, .func (PySem.W.fnOf "_law_all_signs" "_law_all_signs" (defArgs s__law_all_signs) (defBody s__law_all_signs) (defScope s__law_all_signs) .none kV2 dc2 pm2 an2 cd2 ct2), sl2⟩)
    (c2 : PySem.W.codeIn K cd2 "_law_all_signs" = true)
    (k2 : PySem.W.keepIn K (.ref f2) = true)
    (a3 : PySem.W.nsIn K mainGlobals "is_line" = some (some (.ref f3)))
    (l3 : K.lookup f3 = some ⟨oc3, od3, .func (PySem.W.fnOf "is_line" "is_line" (defArgs s_is_line) (defBody s_is_line) (defScope s_is_line) .none kV3 dc3 pm3 an3 cd3 ct3), sl3⟩)
    (c3 : PySem.W.codeIn K cd3 "is_line" = true)
    (k3 : PySem.W.keepIn K (.ref f3) = true)
    (a4 : PySem.W.nsIn K mainGlobals "cells_of" = some (some (.ref f4)))
    (l4 : K.lookup f4 = some ⟨oc4, od4, .func (PySem.W.fnOf "cells_of" "cells_of" (defArgs s_cells_of) (defBody s_cells_of) (defScope s_cells_of) .none kV4 dc4 pm4 an4 cd4 ct4), sl4⟩)
    (c4 : PySem.W.codeIn K cd4 "cells_of" = true)
    (k4 : PySem.W.keepIn K (.ref f4) = true)
    (a5 : PySem.W.nsIn K mainGlobals "_law_is_fixed" = some (some (.ref f5)))
    (l5 : K.lookup f5 = some ⟨oc5, od5, .func (PySem.W.fnOf "_law_is_fixed" "_law_is_fixed" (defArgs s__law_is_fixed) (defBody s__law_is_fixed) (defScope s__law_is_fixed) .none kV5 dc5 pm5 an5 cd5 ct5), sl5⟩)
    (c5 : PySem.W.codeIn K cd5 "_law_is_fixed" = true)
    (k5 : PySem.W.keepIn K (.ref f5) = true)
    (a6 : PySem.W.nsIn K mainGlobals "_law_first_bad" = some (some (.ref f6)))
    (l6 : K.lookup f6 = some ⟨oc6, od6, .func (PySem.W.fnOf "_law_first_bad" "_law_first_bad" (defArgs s__law_first_bad) (defBody s__law_first_bad) (defScope s__law_first_bad) .none kV6 dc6 pm6 an6 cd6 ct6), sl6⟩)
    (c6 : PySem.W.codeIn K cd6 "_law_first_bad" = true)
    (k6 : PySem.W.keepIn K (.ref f6) = true)
    (a7 : PySem.W.nsIn K mainGlobals "_is_allowed" = some (some (.ref f7)))
    (l7 : K.lookup f7 = some ⟨oc7, od7, .func (PySem.W.fnOf "_is_allowed" "_is_allowed" (defArgs s__is_allowed) (defBody s__is_allowed) (defScope s__is_allowed) .none kV7 dc7 pm7 an7 cd7 ct7), sl7⟩)
    (c7 : PySem.W.codeIn K cd7 "_is_allowed" = true)
    (k7 : PySem.W.keepIn K (.ref f7) = true)
    (a8 : PySem.W.findIn K (.ref C_Form) "parts" = some (some (.ref f8)))
    (l8 : K.lookup f8 = some ⟨oc8, od8, .func (PySem.W.fnOf "parts" "Form.parts" (defArgs s_Form_parts) (defBody s_Form_parts) (defScope s_Form_parts) .none kV8 dc8 pm8 an8 cd8 ct8), sl8⟩)
    (c8 : PySem.W.codeIn K cd8 "Form.parts" = true)
    (k8 : PySem.W.keepIn K (.ref f8) = true)
    (i8 : PySem.W.isFn K (.ref f8) = true)
    (j8 : PySem.W.typeIn K (.ref f8) = some (.type "function"))
    (a9 : PySem.W.nsIn K mainGlobals "_law_good" = some (some (.ref f9)))
    (l9 : K.lookup f9 = some ⟨oc9, od9, .func (PySem.W.fnOf "_law_good" "_law_good" (defArgs s__law_good) (defBody s__law_good) (defScope s__law_good) .none kV9 dc9 pm9 an9 cd9 ct9), sl9⟩)
    (c9 : PySem.W.codeIn K cd9 "_law_good" = true)
    (k9 : PySem.W.keepIn K (.ref f9) = true)
    (a10 : PySem.W.nsIn K mainGlobals "_law_bad" = some (some (.ref f10)))
    (l10 : K.lookup f10 = some ⟨oc10, od10, .func (PySem.W.fnOf "_law_bad" "_law_bad" (defArgs s__law_bad) (defBody s__law_bad) (defScope s__law_bad) .none kV10 dc10 pm10 an10 cd10 ct10), sl10⟩)
    (c10 : PySem.W.codeIn K cd10 "_law_bad" = true)
    (k10 : PySem.W.keepIn K (.ref f10) = true)
    (a11 : PySem.W.nsIn K mainGlobals "_law_drawn" = some (some (.ref f11)))
    (l11 : K.lookup f11 = some ⟨oc11, od11, .func (PySem.W.fnOf "_law_drawn" "_law_drawn" (defArgs s__law_drawn) (defBody s__law_drawn) (defScope s__law_drawn) .none kV11 dc11 pm11 an11 cd11 ct11), sl11⟩)
    (c11 : PySem.W.codeIn K cd11 "_law_drawn" = true)
    (k11 : PySem.W.keepIn K (.ref f11) = true)
    (a12 : PySem.W.findIn K (.ref C_NoForm) "__init__" = some (some (.ref f12)))
    (l12 : K.lookup f12 = some ⟨oc12, od12, .func (PySem.W.fnOf "__init__" "NoForm.__init__" (defArgs s_NoForm___init__) (defBody s_NoForm___init__) (defScope s_NoForm___init__) .none kV12 dc12 pm12 an12 cd12 ct12), sl12⟩)
    (c12 : PySem.W.codeIn K cd12 "NoForm.__init__" = true)
    (k12 : PySem.W.keepIn K (.ref f12) = true)
    (i12 : PySem.W.isFn K (.ref f12) = true)
    (j12 : PySem.W.typeIn K (.ref f12) = some (.type "function"))
    (a13 : PySem.W.findIn K (.ref C_Form) "__init__" = some (some (.ref f13)))
    (l13 : K.lookup f13 = some ⟨oc13, od13, .func (PySem.W.fnOf "__init__" "Form.__init__" (defArgs s_Form___init__) (defBody s_Form___init__) (defScope s_Form___init__) .none kV13 dc13 pm13 an13 cd13 ct13), sl13⟩)
    (c13 : PySem.W.codeIn K cd13 "Form.__init__" = true)
    (k13 : PySem.W.keepIn K (.ref f13) = true)
    (i13 : PySem.W.isFn K (.ref f13) = true)
    (j13 : PySem.W.typeIn K (.ref f13) = some (.type "function"))
    (a14 : PySem.W.nsIn K mainGlobals "_law_made" = some (some (.ref f14)))
    (l14 : K.lookup f14 = some ⟨oc14, od14, .func (PySem.W.fnOf "_law_made" "_law_made" (defArgs s__law_made) (defBody s__law_made) (defScope s__law_made) .none kV14 dc14 pm14 an14 cd14 ct14), sl14⟩)
    (c14 : PySem.W.codeIn K cd14 "_law_made" = true)
    (k14 : PySem.W.keepIn K (.ref f14) = true)
    (a15 : PySem.W.nsIn K mainGlobals "_law_other" = some (some (.ref f15)))
    (l15 : K.lookup f15 = some ⟨oc15, od15, .func (PySem.W.fnOf "_law_other" "_law_other" (defArgs s__law_other) (defBody s__law_other) (defScope s__law_other) .none kV15 dc15 pm15 an15 cd15 ct15), sl15⟩)
    (c15 : PySem.W.codeIn K cd15 "_law_other" = true)
    (k15 : PySem.W.keepIn K (.ref f15) = true)
    (a16 : PySem.W.nsIn K mainGlobals "_law_right" = some (some (.ref f16)))
    (l16 : K.lookup f16 = some ⟨oc16, od16, .func (PySem.W.fnOf "_law_right" "_law_right" (defArgs s__law_right) (defBody s__law_right) (defScope s__law_right) .none kV16 dc16 pm16 an16 cd16 ct16), sl16⟩)
    (c16 : PySem.W.codeIn K cd16 "_law_right" = true)
    (k16 : PySem.W.keepIn K (.ref f16) = true)
    (a17 : PySem.W.nsIn K mainGlobals "law" = some (some (.ref f17)))
    (l17 : K.lookup f17 = some ⟨oc17, od17, .func (PySem.W.fnOf "law" "law" (defArgs s_law) (defBody s_law) (defScope s_law) .none kV17 dc17 pm17 an17 cd17 ct17), sl17⟩)
    (c17 : PySem.W.codeIn K cd17 "law" = true)
    (k17 : PySem.W.keepIn K (.ref f17) = true)
    (z_ANY_SIGNS : PySem.W.nsIn K mainGlobals "ANY_SIGNS" = some (some (.str ((Str.ofString "<any>")) t_ANY_SIGNS)))
    (z_MOST_PARTS : PySem.W.nsIn K mainGlobals "MOST_PARTS" = some (some (.int (4) t_MOST_PARTS)))
    (z_MOST_SIGNS : PySem.W.nsIn K mainGlobals "MOST_SIGNS" = some (some (.int (4) t_MOST_SIGNS)))
    (z_OPEN_PARTS : PySem.W.nsIn K mainGlobals "OPEN_PARTS" = some (some (.ref a_OPEN_PARTS)))
    (y_OPEN_PARTS : K.lookup a_OPEN_PARTS = some ⟨.type "tuple", td_OPEN_PARTS, .seq #[.str (Str.ofString "<digits>") t_OPEN_PARTS_0, .str (Str.ofString "<word>") t_OPEN_PARTS_1, .str (Str.ofString "<any>") t_OPEN_PARTS_2] tn_OPEN_PARTS, tl_OPEN_PARTS⟩)
    (z_SIGNS : PySem.W.nsIn K mainGlobals "SIGNS" = some (some (.str ((Str.ofString " #-.0123456789:>ABCDEFGHIJKLMNOPQRSTUVWXYZabcdefghijklmnopqrstuvwxyz")) t_SIGNS)))
    (z_ValueError : PySem.W.nsIn K mainGlobals "ValueError" = some none)
    (z_all : PySem.W.nsIn K mainGlobals "all" = some none)
    (z_bool : PySem.W.nsIn K mainGlobals "bool" = some none)
    (z_int : PySem.W.nsIn K mainGlobals "int" = some none)
    (z_isinstance : PySem.W.nsIn K mainGlobals "isinstance" = some none)
    (z_len : PySem.W.nsIn K mainGlobals "len" = some none)
    (z_list : PySem.W.nsIn K mainGlobals "list" = some none)
    (z_max : PySem.W.nsIn K mainGlobals "max" = some none)
    (z_min : PySem.W.nsIn K mainGlobals "min" = some none)
    (z_range : PySem.W.nsIn K mainGlobals "range" = some none)
    (z_str : PySem.W.nsIn K mainGlobals "str" = some none)
    (z_tuple : PySem.W.nsIn K mainGlobals "tuple" = some none)
    (aC_Form : PySem.W.nsIn K mainGlobals "Form" = some (some (.ref C_Form)))
    (aC_GlueError : PySem.W.nsIn K mainGlobals "GlueError" = some (some (.ref C_GlueError)))
    (aC_NoChange : PySem.W.nsIn K mainGlobals "NoChange" = some (some (.ref C_NoChange)))
    (aC_NoCrew : PySem.W.nsIn K mainGlobals "NoCrew" = some (some (.ref C_NoCrew)))
    (aC_NoForm : PySem.W.nsIn K mainGlobals "NoForm" = some (some (.ref C_NoForm)))
    (aC_NoGrammar : PySem.W.nsIn K mainGlobals "NoGrammar" = some (some (.ref C_NoGrammar)))
    (aC_NoName : PySem.W.nsIn K mainGlobals "NoName" = some (some (.ref C_NoName)))
    (aC_NoOutput : PySem.W.nsIn K mainGlobals "NoOutput" = some (some (.ref C_NoOutput)))
    (aC_NoRow : PySem.W.nsIn K mainGlobals "NoRow" = some (some (.ref C_NoRow)))
    (aC_NoRows : PySem.W.nsIn K mainGlobals "NoRows" = some (some (.ref C_NoRows)))
    (aC_NoRule : PySem.W.nsIn K mainGlobals "NoRule" = some (some (.ref C_NoRule)))
    (aC_NoText : PySem.W.nsIn K mainGlobals "NoText" = some (some (.ref C_NoText)))
    (aC_NotEnough : PySem.W.nsIn K mainGlobals "NotEnough" = some (some (.ref C_NotEnough)))
    (aC_NotRight : PySem.W.nsIn K mainGlobals "NotRight" = some (some (.ref C_NotRight)))
    (aC_Pattern : PySem.W.nsIn K mainGlobals "Pattern" = some (some (.ref C_Pattern)))
    (pg_Form : PySem.W.plainGet K C_Form Str.empty = true) (hd_Form : PySem.W.hasDictIn K C_Form = true) (po_Form : PySem.W.plainOver K C_Form = true) (sa_Form : PySem.W.findIn K (.ref C_Form) "__setattr__" = some (some (.builtin "object.__setattr__"))) (mk_Form : PySem.W.makesIn K C_Form = true) (kc_Form : PySem.W.keepIn K (.ref C_Form) = true)
    (n_Form__cells : PySem.W.findIn K (.ref C_Form) "_cells" = some none)
    (n_Form__parts : PySem.W.findIn K (.ref C_Form) "_parts" = some none)
    (xl_NoForm : K.lookup C_NoForm = some (excClassObj nm_NoForm qn_NoForm C_NoForm nd_NoForm bs_NoForm [.ref C_GlueError, .type "ValueError", .type "Exception", .type "BaseException", .type "object"] true sn_NoForm su_NoForm ab_NoForm co_NoForm dd_NoForm m0_NoForm m1_NoForm m2_NoForm m3_NoForm m5_NoForm "ValueError.__new__"))
    (xs_NoForm : PySem.W.findIn K (.ref C_NoForm) "__setattr__" = some (some (.builtin "object.__setattr__"))) (xg_NoForm : PySem.W.findIn K (.ref C_NoForm) "__getattribute__" = some (some (.builtin "BaseException.__getattribute__"))) (xh_NoForm : PySem.W.findIn K (.ref C_NoForm) "__getattr__" = some none)
    (xe_NoForm : PySem.W.subIn K (.ref C_NoForm) (.type "BaseException") = some true) (xt_NoForm : PySem.W.typeIn K (.ref C_NoForm) = some (.type "type")) (xk_NoForm : PySem.W.keepIn K (.ref C_NoForm) = true) (xd_NoForm : PySem.W.hasDictIn K C_NoForm = true) (xi_NoForm : PySem.W.isClsIn K C_NoForm = true) (xu_NoForm : PySem.W.subIn K (.ref C_NoForm) (.ref C_NoForm) = some true)
    (xa_NoForm : PySem.W.findIn K (.ref C_NoForm) "__class__" = some (some (.builtin "object.__class__"))) (xn_NoForm : PySem.W.specialIn K (.builtin "object.__class__") "__get__" = some (some (.builtin "getset_descriptor.__get__"))) (xp_NoForm : PySem.W.takesIn K (.builtin "object.__class__") = some true) (xm_NoForm : PySem.W.mroIn K C_NoForm (.type "object") = some true)
    (xf_NoForm_at : PySem.W.findIn K (.ref C_NoForm) "at" = some none)
    (q_a9 : PySem.W.kitAny K (.ref C_NoForm) [.ref C_NoChange, .ref C_NoCrew, .ref C_NoGrammar, .ref C_NoName, .ref C_NoOutput, .ref C_NoRow, .ref C_NoRows, .ref C_NoRule, .ref C_NoText] = some false)
    (q_a2 : PySem.W.kitAny K (.ref C_NoForm) [.ref C_NotEnough, .ref C_NotRight] = some false)
    (q_g : PySem.W.kitOne K (.ref C_NoForm) (.ref C_GlueError) = some true)
    (q_v : PySem.W.kitOne K (.ref C_NoForm) (.type "ValueError") = some true)
    (q_p : PySem.W.kitOne K (.ref C_Form) (.ref C_Pattern) = some true)
    (q_fa : PySem.W.findIn K (.ref C_Form) "__class__" = some (some (.builtin "object.__class__")))
    (q_fm : PySem.W.mroIn K C_Form (.type "object") = some true)
    (q_rd : PySem.W.readsIn K C_Form (.type "type") = true)
    (q_rg : PySem.W.specialIn K (.ref C_Form) "__getattribute__" = some (some (.builtin "type.__getattribute__")))
    (q_1 : PySem.W.findCls K (.ref C_Form) (.type "type") "DIGITS" = some (.val (.str (Str.ofString "<digits>") t_q_1)))
    (q_2 : PySem.W.findCls K (.ref C_Form) (.type "type") "WORD" = some (.val (.str (Str.ofString "<word>") t_q_2)))
    (q_3 : PySem.W.findCls K (.ref C_Form) (.type "type") "ANY" = some (.val (.str (Str.ofString "<any>") t_q_3)))
    : ∃ fd : FuncData, (∀ (s : Shared) (v : Value), BindsTo s fd ⟨[v], []⟩ [("script", v)]) ∧ ∀ base : Heap, K.In base → base.Ns mainGlobals mg → FnOk l.prog w K mg base CX0 7 fa fd ["script"] (spLaw K) := by
  have e := hfa.symm.trans (PySem.W.mg_of X G a17)
  cases e
  have T : Txt K mg a_OPEN_PARTS C_Form C_GlueError C_NoChange C_NoCrew C_NoForm C_NoGrammar C_NoName C_NoOutput C_NoRow C_NoRows C_NoRule C_NoText C_NotEnough C_NotRight C_Pattern := { c_ANY_SIGNS := ⟨_, PySem.W.mg_of X G z_ANY_SIGNS, ⟨_, rfl⟩⟩, c_MOST_PARTS := ⟨_, PySem.W.mg_of X G z_MOST_PARTS, ⟨_, rfl⟩⟩, c_MOST_SIGNS := ⟨_, PySem.W.mg_of X G z_MOST_SIGNS, ⟨_, rfl⟩⟩, c_OPEN_PARTS := ⟨_, PySem.W.mg_of X G z_OPEN_PARTS, rfl⟩, o_OPEN_PARTS := ⟨_, _, _, y_OPEN_PARTS, rfl, rfl, sz_of (by simp), (.cons ⟨_, rfl⟩ (.cons ⟨_, rfl⟩ (.cons ⟨_, rfl⟩ .nil)))⟩, c_SIGNS := ⟨_, PySem.W.mg_of X G z_SIGNS, ⟨_, rfl⟩⟩, n_ValueError := PySem.W.mg_none_of X G z_ValueError, n_all := PySem.W.mg_none_of X G z_all, n_bool := PySem.W.mg_none_of X G z_bool, n_int := PySem.W.mg_none_of X G z_int, n_isinstance := PySem.W.mg_none_of X G z_isinstance, n_len := PySem.W.mg_none_of X G z_len, n_list := PySem.W.mg_none_of X G z_list, n_max := PySem.W.mg_none_of X G z_max, n_min := PySem.W.mg_none_of X G z_min, n_range := PySem.W.mg_none_of X G z_range, n_str := PySem.W.mg_none_of X G z_str, n_tuple := PySem.W.mg_none_of X G z_tuple, c_Form := ⟨_, PySem.W.mg_of X G aC_Form, rfl⟩, c_GlueError := ⟨_, PySem.W.mg_of X G aC_GlueError, rfl⟩, c_NoChange := ⟨_, PySem.W.mg_of X G aC_NoChange, rfl⟩, c_NoCrew := ⟨_, PySem.W.mg_of X G aC_NoCrew, rfl⟩, c_NoForm := ⟨_, PySem.W.mg_of X G aC_NoForm, rfl⟩, c_NoGrammar := ⟨_, PySem.W.mg_of X G aC_NoGrammar, rfl⟩, c_NoName := ⟨_, PySem.W.mg_of X G aC_NoName, rfl⟩, c_NoOutput := ⟨_, PySem.W.mg_of X G aC_NoOutput, rfl⟩, c_NoRow := ⟨_, PySem.W.mg_of X G aC_NoRow, rfl⟩, c_NoRows := ⟨_, PySem.W.mg_of X G aC_NoRows, rfl⟩, c_NoRule := ⟨_, PySem.W.mg_of X G aC_NoRule, rfl⟩, c_NoText := ⟨_, PySem.W.mg_of X G aC_NoText, rfl⟩, c_NotEnough := ⟨_, PySem.W.mg_of X G aC_NotEnough, rfl⟩, c_NotRight := ⟨_, PySem.W.mg_of X G aC_NotRight, rfl⟩, c_Pattern := ⟨_, PySem.W.mg_of X G aC_Pattern, rfl⟩, k_Form := ⟨pg_Form, hd_Form, po_Form, sa_Form⟩, a_Form__cells := n_Form__cells, a_Form__parts := n_Form__parts, x_NoForm := ⟨⟨⟨_, _, _, _, _, _, _, _, _, _, _, _, _, _, _, xl_NoForm, by rfl⟩, xs_NoForm, xe_NoForm, xt_NoForm, xk_NoForm⟩, ⟨xg_NoForm, xh_NoForm, xe_NoForm, xd_NoForm⟩, xi_NoForm, xa_NoForm, xn_NoForm, xp_NoForm, xm_NoForm, PySem.W.exm_ref xe_NoForm xd_NoForm xt_NoForm xu_NoForm⟩, m_NoForm := PySem.W.mg_of X G aC_NoForm, f_NoForm_at := xf_NoForm_at, q_a9 := q_a9, q_a2 := q_a2, q_g := q_g, q_v := q_v, q_p := q_p, q_fa := q_fa, q_fm := q_fm, q_rd := q_rd, q_rg := q_rg, q_1 := ⟨_, q_1⟩, q_2 := ⟨_, q_2⟩, q_3 := ⟨_, q_3⟩ }
  have F0 := fun_mk (st := s__law_take) l0 c0 k0
  have b0 := F0.binds (ps := ["pool", "many"]) fun _ _ _ _ _ _ us hl => match us, hl with | [_, _], _ => rfl
  have F1 := fun_mk (st := s__law_pool) l1 c1 k1
  have b1 := F1.binds (ps := ["script", "k"]) fun _ _ _ _ _ _ us hl => match us, hl with | [_, _], _ => rfl
  have F2 := fun_mk (st := s__law_all_signs) l2 c2 k2
  have b2 := F2.binds (ps := []) fun _ _ _ _ _ _ us hl => match us, hl with | [], _ => rfl
  have F3 := fun_mk (st := s_is_line) l3 c3 k3
  have b3 := F3.binds (ps := ["thing"]) fun _ _ _ _ _ _ us hl => match us, hl with | [_], _ => rfl
  have F4 := fun_mk (st := s_cells_of) l4 c4 k4
  have b4 := F4.binds (ps := ["parts"]) fun _ _ _ _ _ _ us hl => match us, hl with | [_], _ => rfl
  have F5 := fun_mk (st := s__law_is_fixed) l5 c5 k5
  have b5 := F5.binds (ps := ["part"]) fun _ _ _ _ _ _ us hl => match us, hl with | [_], _ => rfl
  have F6 := fun_mk (st := s__law_first_bad) l6 c6 k6
  have b6 := F6.binds (ps := ["parts"]) fun _ _ _ _ _ _ us hl => match us, hl with | [_], _ => rfl
  have F7 := fun_mk (st := s__is_allowed) l7 c7 k7
  have b7 := F7.binds (ps := ["parts", "at"]) fun _ _ _ _ _ _ us hl => match us, hl with | [_, _], _ => rfl
  have F8 := fun_mk (st := s_Form_parts) l8 c8 k8
  have b8 := F8.binds (ps := ["self"]) fun _ _ _ _ _ _ us hl => match us, hl with | [_], _ => rfl
  have F9 := fun_mk (st := s__law_good) l9 c9 k9
  have b9 := F9.binds (ps := ["pool"]) fun _ _ _ _ _ _ us hl => match us, hl with | [_], _ => rfl
  have F10 := fun_mk (st := s__law_bad) l10 c10 k10
  have b10 := F10.binds (ps := ["pool"]) fun _ _ _ _ _ _ us hl => match us, hl with | [_], _ => rfl
  have F11 := fun_mk (st := s__law_drawn) l11 c11 k11
  have b11 := F11.binds (ps := ["pool"]) fun _ _ _ _ _ _ us hl => match us, hl with | [_], _ => rfl
  have F12 := fun_mk (st := s_NoForm___init__) l12 c12 k12
  have b12 := F12.binds (ps := ["self", "at"]) fun _ _ _ _ _ _ us hl => match us, hl with | [_, _], _ => rfl
  have F13 := fun_mk (st := s_Form___init__) l13 c13 k13
  have F14 := fun_mk (st := s__law_made) l14 c14 k14
  have b14 := F14.binds (ps := ["parts"]) fun _ _ _ _ _ _ us hl => match us, hl with | [_], _ => rfl
  have F15 := fun_mk (st := s__law_other) l15 c15 k15
  have b15 := F15.binds (ps := ["e"]) fun _ _ _ _ _ _ us hl => match us, hl with | [_], _ => rfl
  have F16 := fun_mk (st := s__law_right) l16 c16 k16
  have b16 := F16.binds (ps := ["parts"]) fun _ _ _ _ _ _ us hl => match us, hl with | [_], _ => rfl
  have F17 := fun_mk (st := s_law) l17 c17 k17
  refine ⟨PySem.W.fnOf "law" "law" (defArgs s_law) (defBody s_law) (defScope s_law) .none kV17 dc17 pm17 an17 cd17 ct17, fun s v => .of_eq rfl, fun base _ _ => ?_⟩
  have D__law_take : Df l.prog w K mg base "_law_take" ["pool", "many"] 1 spTake := ⟨f0, _, PySem.W.mg_of X G a0, k0, b0, ok__law_take F0 T⟩
  have D__law_pool : Df l.prog w K mg base "_law_pool" ["script", "k"] 1 (spPool K) := ⟨f1, _, PySem.W.mg_of X G a1, k1, b1, ok__law_pool F1 T⟩
  have D__law_all_signs : Df l.prog w K mg base "_law_all_signs" [] 1 (spK (.str signsS)) := ⟨f2, _, PySem.W.mg_of X G a2, k2, b2, ok__law_all_signs F2⟩
  have D_is_line : Df l.prog w K mg base "is_line" ["thing"] 1 (spIsLine K) := ⟨f3, _, PySem.W.mg_of X G a3, k3, b3, ok_is_line F3 T⟩
  have D_cells_of__t : Df l.prog w K mg base "cells_of" ["parts"] 1 (spCellsT K) := ⟨f4, _, PySem.W.mg_of X G a4, k4, b4, ok_cells_of__t F4 T⟩
  have D__law_is_fixed : Df l.prog w K mg base "_law_is_fixed" ["part"] 2 spFixed := ⟨f5, _, PySem.W.mg_of X G a5, k5, b5, ok__law_is_fixed F5 T D__law_all_signs⟩
  have D__law_first_bad : Df l.prog w K mg base "_law_first_bad" ["parts"] 3 (spFirst K) := ⟨f6, _, PySem.W.mg_of X G a6, k6, b6, ok__law_first_bad F6 T D__law_is_fixed⟩
  have D__is_allowed : Df l.prog w K mg base "_is_allowed" ["parts", "at"] 2 (spAllowX K) := ⟨f7, _, PySem.W.mg_of X G a7, k7, b7, ok__is_allowed F7 T D_is_line⟩
  have D_Form_parts : DfM l.prog w K mg base C_Form "parts" ["self"] 1 (spParts C_Form) := ⟨f8, _, ⟨a8, i8, k8⟩, b8, ok_Form_parts F8 T⟩
  have D__law_good : Df l.prog w K mg base "_law_good" ["pool"] 2 (spPT lawGood) := ⟨f9, _, PySem.W.mg_of X G a9, k9, b9, ok__law_good F9 T D__law_take D__law_all_signs⟩
  have D__law_bad : Df l.prog w K mg base "_law_bad" ["pool"] 3 spBad := ⟨f10, _, PySem.W.mg_of X G a10, k10, b10, ok__law_bad F10 T D__law_take D__law_good⟩
  have D__law_drawn : Df l.prog w K mg base "_law_drawn" ["pool"] 4 spDrawn := ⟨f11, _, PySem.W.mg_of X G a11, k11, b11, ok__law_drawn F11 T D__law_take D__law_good D__law_bad⟩
  have D_NoForm___init__ : DfX l.prog w K mg base "NoForm" C_NoForm ["self", "at"] 1 (spXI C_NoForm "at") := ⟨f12, _, T.x_NoForm.o, a12, j12, PySem.W.mg_of X G aC_NoForm, b12, ok_NoForm___init__ F12 T⟩
  have D_Form___init__ : DfSX l.prog w K mg base "Form" C_Form 3 (spFormX C_Form C_NoForm) := ⟨f13, ⟨mk_Form, a13, i13, kc_Form⟩, PySem.W.mg_of X G aC_Form, okx_Form___init__ F13 T D_NoForm___init__ D__is_allowed D_cells_of__t⟩
  have D__law_made : DfR l.prog w K mg base "_law_made" ["parts"] 5 (spMade K C_Form C_NoForm) := ⟨f14, _, PySem.W.mg_of X G a14, k14, b14, ok__law_made F14 T D_Form___init__⟩
  have D__law_other : DfE l.prog w K mg base "_law_other" ["e"] 1 (spOther C_NoForm) := ⟨f15, _, PySem.W.mg_of X G a15, k15, b15, oke__law_other F15 T⟩
  have D__law_right : Df l.prog w K mg base "_law_right" ["parts"] 6 (spRight K) := ⟨f16, _, PySem.W.mg_of X G a16, k16, b16, ok__law_right F16 T D__law_first_bad D__law_made D__law_other D_Form_parts⟩
  exact ok_law F17 T D__law_pool D__law_drawn D__law_right
theorem walk {l : PySem.W.OpenLaw} {q : Program} {loose : List Str} {XP : (Str → Option Value) → Heap → Prop} {YP : World → Heap → Prop} {d : DefRec} {K : Params → PySem.W.Frag} (hn : l.most = some 63) (hdf : d.params.defaults = [])
    (hY : ∀ (w : World) (h : Heap), YP w h → (K w.params).In h)
    (F : ∀ (w : World) (mg : Str → Option Value) (fa : Addr) (h : Heap), (K w.params).In h → h.Ns mainGlobals mg → mg d.name = some (.ref fa) →
      ∃ fd : FuncData, (∀ (s : Shared) (u : Value), BindsTo s fd ⟨[u], []⟩ [("script", u)]) ∧ ∀ base : Heap, (K w.params).In base → base.Ns mainGlobals mg → FnOk l.prog w (K w.params) mg base CX0 7 fa fd ["script"] (spLaw (K w.params))) :
    PySem.W.WalkO q loose XP YP l.row.toRowW d [] (fun f vs => PySem.call f vs) :=
  L2.walk_of (n := 63) (k := 7) (x := "script") (CX := fun _ => CX0) (sp := fun w => spLaw (K w.params)) hn (by decide) hdf ⟨rfl, by decide, by decide⟩ hY F (fun _ _ a ns hl _ hS => ⟨a, ns, rfl, hS, hl, fun _ => rfl⟩) fun _ _ _ _ _ z => z
end Q

open PySem PySem.W PyProof.Rows in
set_option maxRecDepth 100000 in
set_option maxHeartbeats 0 in
theorem PySem.Challenge.cw_gluedlines_k02_forms_made_or_refused_holds : PySem.Challenge.rw_gluedlines_k02_forms_made_or_refused.Holds := by
  w_on; o_law; k_head; (case hw => w_witness2)
  k_fill
  refine Q.walk (l := PySem.Challenge.rw_gluedlines_k02_forms_made_or_refused) rfl rfl (fun w h Y => PySem.W.kIn_of Y) ?F
  case F =>
    intro w mg fa h KX G hmg
    refine' Q.all_mk KX G hmg ?a0 ?l0 ?c0 ?k0 ?a1 ?l1 ?c1 ?k1 ?a2 ?l2 ?c2 ?k2 ?a3 ?l3 ?c3 ?k3 ?a4 ?l4 ?c4 ?k4 ?a5 ?l5 ?c5 ?k5 ?a6 ?l6 ?c6 ?k6 ?a7 ?l7 ?c7 ?k7 ?a8 ?l8 ?c8 ?k8 ?i8 ?j8 ?a9 ?l9 ?c9 ?k9 ?a10 ?l10 ?c10 ?k10 ?a11 ?l11 ?c11 ?k11 ?a12 ?l12 ?c12 ?k12 ?i12 ?j12 ?a13 ?l13 ?c13 ?k13 ?i13 ?j13 ?a14 ?l14 ?c14 ?k14 ?a15 ?l15 ?c15 ?k15 ?a16 ?l16 ?c16 ?k16 ?a17 ?l17 ?c17 ?k17 ?z_ANY_SIGNS ?z_MOST_PARTS ?z_MOST_SIGNS ?z_OPEN_PARTS ?y_OPEN_PARTS ?z_SIGNS ?z_ValueError ?z_all ?z_bool ?z_int ?z_isinstance ?z_len ?z_list ?z_max ?z_min ?z_range ?z_str ?z_tuple ?aC_Form ?aC_GlueError ?aC_NoChange ?aC_NoCrew ?aC_NoForm ?aC_NoGrammar ?aC_NoName ?aC_NoOutput ?aC_NoRow ?aC_NoRows ?aC_NoRule ?aC_NoText ?aC_NotEnough ?aC_NotRight ?aC_Pattern ?pg_Form ?hd_Form ?po_Form ?sa_Form ?mk_Form ?kc_Form ?n_Form__cells ?n_Form__parts ?xl_NoForm ?xs_NoForm ?xg_NoForm ?xh_NoForm ?xe_NoForm ?xt_NoForm ?xk_NoForm ?xd_NoForm ?xi_NoForm ?xu_NoForm ?xa_NoForm ?xn_NoForm ?xp_NoForm ?xm_NoForm ?xf_NoForm_at ?q_a9 ?q_a2 ?q_g ?q_v ?q_p ?q_fa ?q_fm ?q_rd ?q_rg ?q_1 ?q_2 ?q_3
    (case aC_Form => k_is)
    (case aC_GlueError => k_is)
    (case aC_NoChange => k_is)
    (case aC_NoCrew => k_is)
    (case aC_NoForm => k_is)
    (case aC_NoGrammar => k_is)
    (case aC_NoName => k_is)
    (case aC_NoOutput => k_is)
    (case aC_NoRow => k_is)
    (case aC_NoRows => k_is)
    (case aC_NoRule => k_is)
    (case aC_NoText => k_is)
    (case aC_NotEnough => k_is)
    (case aC_NotRight => k_is)
    (case aC_Pattern => k_is)
    (case pg_Form => k_is)
    (case hd_Form => k_is)
    (case po_Form => k_is)
    (case sa_Form => k_is)
    (case mk_Form => k_is)
    (case kc_Form => k_is)
    (case n_Form__cells => k_is)
    (case n_Form__parts => k_is)
    (case xl_NoForm => k_is)
    (case xs_NoForm => k_is)
    (case xg_NoForm => k_is)
    (case xh_NoForm => k_is)
    (case xe_NoForm => k_is)
    (case xt_NoForm => k_is)
    (case xk_NoForm => k_is)
    (case xd_NoForm => k_is)
    (case xi_NoForm => k_is)
    (case xu_NoForm => first | rfl | k_is)
    (case xa_NoForm => k_is)
    (case xn_NoForm => k_is)
    (case xp_NoForm => k_is)
    (case xm_NoForm => k_is)
    (case xf_NoForm_at => k_is)
    (case a0 => k_is)
    (case l0 => k_is)
    (case c0 => k_is)
    (case k0 => k_is)
    (case a1 => k_is)
    (case l1 => k_is)
    (case c1 => k_is)
    (case k1 => k_is)
    (case a2 => k_is)
    (case l2 => k_is)
    (case c2 => k_is)
    (case k2 => k_is)
    (case a3 => k_is)
    (case l3 => k_is)
    (case c3 => k_is)
    (case k3 => k_is)
    (case a4 => k_is)
    (case l4 => k_is)
    (case c4 => k_is)
    (case k4 => k_is)
    (case a5 => k_is)
    (case l5 => k_is)
    (case c5 => k_is)
    (case k5 => k_is)
    (case a6 => k_is)
    (case l6 => k_is)
    (case c6 => k_is)
    (case k6 => k_is)
    (case a7 => k_is)
    (case l7 => k_is)
    (case c7 => k_is)
    (case k7 => k_is)
    (case a8 => k_is)
    (case l8 => k_is)
    (case c8 => k_is)
    (case k8 => k_is)
    (case i8 => k_is)
    (case j8 => k_is)
    (case a9 => k_is)
    (case l9 => k_is)
    (case c9 => k_is)
    (case k9 => k_is)
    (case a10 => k_is)
    (case l10 => k_is)
    (case c10 => k_is)
    (case k10 => k_is)
    (case a11 => k_is)
    (case l11 => k_is)
    (case c11 => k_is)
    (case k11 => k_is)
    (case a12 => k_is)
    (case l12 => k_is)
    (case c12 => k_is)
    (case k12 => k_is)
    (case i12 => k_is)
    (case j12 => k_is)
    (case a13 => k_is)
    (case l13 => k_is)
    (case c13 => k_is)
    (case k13 => k_is)
    (case i13 => k_is)
    (case j13 => k_is)
    (case a14 => k_is)
    (case l14 => k_is)
    (case c14 => k_is)
    (case k14 => k_is)
    (case a15 => k_is)
    (case l15 => k_is)
    (case c15 => k_is)
    (case k15 => k_is)
    (case a16 => k_is)
    (case l16 => k_is)
    (case c16 => k_is)
    (case k16 => k_is)
    (case a17 => k_is)
    (case l17 => k_is)
    (case c17 => k_is)
    (case k17 => k_is)
    (case z_ANY_SIGNS => k_is)
    (case z_MOST_PARTS => k_is)
    (case z_MOST_SIGNS => k_is)
    (case z_OPEN_PARTS => k_is)
    (case y_OPEN_PARTS => k_is)
    (case z_SIGNS => k_is)
    (case z_ValueError => k_is)
    (case z_all => k_is)
    (case z_bool => k_is)
    (case z_int => k_is)
    (case z_isinstance => k_is)
    (case z_len => k_is)
    (case z_list => k_is)
    (case z_max => k_is)
    (case z_min => k_is)
    (case z_range => k_is)
    (case z_str => k_is)
    (case z_tuple => k_is)
    (case q_a9 => first | k_is | kit_is)
    (case q_a2 => first | k_is | kit_is)
    (case q_g => first | k_is | kit_is)
    (case q_v => first | k_is | kit_is)
    (case q_p => first | k_is | kit_is)
    (case q_fa => first | k_is | kit_is)
    (case q_fm => first | k_is | kit_is)
    (case q_rd => first | k_is | kit_is)
    (case q_rg => first | k_is | kit_is)
    (case q_1 => first | k_is | kit_is)
    (case q_2 => first | k_is | kit_is)
    (case q_3 => first | k_is | kit_is)
